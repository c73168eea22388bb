import PyProof.Rows.All
import Wide.All
import OpenK.AllK
import Wide.FinOn
import Lean
import PyProof.EqAt
import PyProof.EqKinds
import PyProof.TupleCall
import PyProof.Cells
import PyProof.AttrMissHeap
import PyProof.FactsAll.zip
import KE.KItemsList
import PyProof.DictUpdate
import KE.KEqDict
import PyProof.AutoSeq1
import PySem.Challenge.RW_ladderworth_k62_no_tree
set_option Elab.async false
set_option linter.all false
set_option maxRecDepth 100000
namespace L2
open PySem PySem.Spec PyProof.Rows
abbrev Key := Sum Int Str
def keyIs : Key → Value → Bool
  | .inl k, v => Value.isInt k v
  | .inr x, v => Value.isStrOf x v
def keyH (w : World) : Key → Int
  | .inl k => hashInt k
  | .inr x => hashStr w x
theorem keyIs_shape : ∀ {k : Key} {v : Value}, keyIs k v = true → (∃ i t, k = Sum.inl i ∧ v = Value.int i t) ∨ (∃ x t, k = Sum.inr x ∧ v = Value.str x t)
  | .inl i, v, h => by
    obtain ⟨t, e⟩ := Value.isInt_shape (k := i) (v := v) h
    exact .inl ⟨i, t, rfl, e⟩
  | .inr x, v, h => by
    obtain ⟨t, e⟩ := Value.isStrOf_shape (x := x) (v := v) h
    exact .inr ⟨x, t, rfl, e⟩
theorem keyIs_int (i : Int) (t : Tok) : keyIs (.inl i) (.int i t) = true := by simp [keyIs, Value.isInt]
theorem keyIs_str (x : Str) (t : Tok) : keyIs (.inr x) (.str x t) = true := by simp [keyIs, Value.isStrOf]
theorem key_ll (a b : Int) : decide ((Sum.inl a : Key) = Sum.inl b) = (a == b) := by
  by_cases e : a = b
  · subst e; simp
  · have h : ¬ (Sum.inl a : Key) = Sum.inl b := fun q => e (Sum.inl.inj q)
    rw [decide_eq_false h]
    exact (beq_eq_false_iff_ne.mpr e).symm
theorem key_rr (a b : Str) : decide ((Sum.inr a : Key) = Sum.inr b) = decide (a = b) := by
  by_cases e : a = b
  · subst e; simp
  · have h : ¬ (Sum.inr a : Key) = Sum.inr b := fun q => e (Sum.inr.inj q)
    rw [decide_eq_false h, decide_eq_false e]
theorem key_lr (a : Int) (b : Str) : decide ((Sum.inl a : Key) = Sum.inr b) = false := decide_eq_false (fun q => nomatch q)
theorem key_rl (a : Str) (b : Int) : decide ((Sum.inr a : Key) = Sum.inl b) = false := decide_eq_false (fun q => nomatch q)
def mixKind (prog : Program) (w : World) : PySem.KeyKind prog w Key where
  is := keyIs
  hash := keyH w
  inj := fun v a b ha hb => by
    rcases keyIs_shape ha with ⟨i, t, rfl, rfl⟩ | ⟨x, t, rfl, rfl⟩
    · rcases keyIs_shape hb with ⟨j, u, rfl, e⟩ | ⟨y, u, rfl, e⟩
      · injection e with e1 _; rw [e1]
      · exact nomatch e
    · rcases keyIs_shape hb with ⟨j, u, rfl, e⟩ | ⟨y, u, rfl, e⟩
      · exact nomatch e
      · injection e with e1 _; rw [e1]
  byValue := fun k v h => by
    rcases keyIs_shape h with ⟨i, t, rfl, rfl⟩ | ⟨x, t, rfl, rfl⟩ <;> rfl
  pyHash := fun hv h => by
    rcases keyIs_shape hv with ⟨i, t, rfl, rfl⟩ | ⟨x, t, rfl, rfl⟩
    · exact wpAny_pyHash_int h
    · exact wpAny_pyHash_str h
  eqBool := fun hu hv h => by
    rcases keyIs_shape hu with ⟨i, t, rfl, rfl⟩ | ⟨x, t, rfl, rfl⟩
    · rcases keyIs_shape hv with ⟨j, u, rfl, rfl⟩ | ⟨y, u, rfl, rfl⟩
      · rw [key_ll] at h; exact wpAny_eqBool_int h
      · rw [key_lr] at h; exact SeqAt.EqAt.int_str i t y u _ _ _ _ h
    · rcases keyIs_shape hv with ⟨j, u, rfl, rfl⟩ | ⟨y, u, rfl, rfl⟩
      · rw [key_rl] at h; exact SeqAt.EqAt.str_int x t j u _ _ _ _ h
      · rw [key_rr] at h; exact wpAny_eqBool_str h
  «strs» := fun k x t v h => by
    rcases keyIs_shape h with ⟨i, u, rfl, e⟩ | ⟨y, u, rfl, e⟩
    · exact nomatch e
    · injection e with e1 _
      subst e1
      cases v <;> rfl
theorem mixKind_int (prog : Program) (w : World) (i : Int) (t : Tok) : (mixKind prog w).is (.inl i) (.int i t) = true := keyIs_int i t
theorem mixKind_str (prog : Program) (w : World) (x : Str) (t : Tok) : (mixKind prog w).is (.inr x) (.str x t) = true := keyIs_str x t
end L2
namespace L2
open PySem PySem.Spec PyProof.Rows
inductive V where
  | non | bl (b : Bool) | int (i : Int) | str (x : Str) | byt (b : Array UInt8) | flt (b : UInt64) | ref (a : Addr) | ty (n : String)
  deriving DecidableEq
def RelV : V → Value → Prop
  | .non, u => u = Value.none
  | .bl b, u => u = Value.bool b
  | .int i, u => ∃ t, u = Value.int i t
  | .str x, u => ∃ t, u = Value.str x t
  | .byt b, u => ∃ t, u = Value.bytes b t
  | .flt b, u => ∃ t, u = Value.float b t
  | .ref a, u => u = Value.ref a
  | .ty n, u => u = Value.type n
abbrev Vals : List V → List Value → Prop := Paired RelV
theorem Vals.length {xs : List V} {us : List Value} (r : Vals xs us) : xs.length = us.length := Paired.length r
theorem Vals.get : ∀ {xs : List V} {us : List Value} {i : Nat} {x : V}, Vals xs us → xs[i]? = some x → ∃ u, us[i]? = some u ∧ RelV x u
  | _, _, _, _, .nil, e => by simp at e
  | _, _, 0, _, .cons r _, e => by simp at e; subst e; exact ⟨_, rfl, r⟩
  | _, _, i + 1, x, .cons _ t, e => by
    obtain ⟨u, h1, h2⟩ := Vals.get (i := i) (x := x) t (by simpa using e)
    exact ⟨u, by simpa using h1, h2⟩
theorem Vals.append : ∀ {xs ys : List V} {us ws : List Value}, Vals xs us → Vals ys ws → Vals (xs ++ ys) (us ++ ws)
  | _, _, _, _, .nil, s => s
  | _, _, _, _, .cons r t, s => .cons r (Vals.append t s)
theorem Vals.take : ∀ {xs : List V} {us : List Value} (n : Nat), Vals xs us → Vals (xs.take n) (us.take n)
  | _, _, 0, _ => .nil
  | _, _, _ + 1, .nil => .nil
  | _, _, n + 1, .cons r t => .cons r (Vals.take n t)
theorem Vals.drop : ∀ {xs : List V} {us : List Value} (n : Nat), Vals xs us → Vals (xs.drop n) (us.drop n)
  | _, _, 0, r => r
  | _, _, _ + 1, .nil => .nil
  | _, _, n + 1, .cons _ t => Vals.drop n t
def RelO : Option V → Option Value → Prop
  | some v, some u => RelV v u
  | none, none => True
  | _, _ => False
def KV {κ : Type} : List (κ × V) → List (κ × Value) → Prop := Paired fun (p : κ × V) (q : κ × Value) => p.1 = q.1 ∧ RelV p.2 q.2
def kV : Key → V
  | .inl i => .int i
  | .inr x => .str x
inductive HO where
  | lst (xs : List V)
  | tup (xs : List V)
  | dK (kvs : List (Key × V)) | dT (kvs : List (List Key × V))
  | set (S : Int → Bool) (n : Nat)
  | ins (C dx : Addr) (fs : List (Str × V))
  | own (x : Addr)
  | xd (fs : List (Str × V))
  | met (f x : Addr)
  | rng (lo hi : Int)
  | frz (o : Obj) (u : HO)
  | tbl (ps : Array Value)
  | ext (φ : Heap → Prop)
abbrev Hp := Addr → Option HO
def upd (H : Hp) (a : Addr) (o : HO) : Hp := fun b => if b = a then some o else H b
theorem upd_same {H : Hp} {a : Addr} {o : HO} : upd H a o a = some o := by unfold upd; rw [if_pos rfl]
theorem upd_ne {H : Hp} {a b : Addr} {o : HO} (h : b ≠ a) : upd H a o b = H b := by unfold upd; rw [if_neg h]
theorem upd_upd {H : Hp} {a : Addr} {o u : HO} : upd (upd H a o) a u = upd H a u := by
  funext b; unfold upd; split <;> rfl
theorem ne_of {H : Hp} {a b : Addr} {o u : HO} (h : H a = some o) (h' : H b = some u) (d : o ≠ u) : a ≠ b := by
  intro e; subst e; rw [h] at h'; exact d (Option.some.inj h')
theorem ne_of_none {H : Hp} {a b : Addr} {o : HO} (h : H a = some o) (h' : H b = none) : a ≠ b := by
  intro e; subst e; rw [h] at h'; cases h'
section
variable (P : Program) (w : World)
def ObjOk (H : Hp) (h : Heap) (a : Addr) : HO → Prop
  | .lst xs => xs.length ≤ sizeLine ∧ ∃ (its : List Value) (n : Nat), Vals xs its ∧ h.get? a = some { cls := .type "list", data := .seq its.toArray n }
  | .tup xs => xs.length ≤ sizeLine ∧ ∃ its : List Value, Vals xs its ∧ IsTup h a its.toArray
  | .dK kvs => kvs.length ≤ sizeLine ∧ (a == sysModules) = false ∧ ∃ vs, KV kvs vs ∧ h.DictOf (mixKind P w) a vs
  | .dT kvs => kvs.length ≤ sizeLine ∧ (a == sysModules) = false ∧ ∃ xs : List (List Key × Addr × Value),
      Paired (fun (p : List Key × V) (q : List Key × Addr × Value) => p.1 = q.1 ∧ H q.2.1 = some (.tup (p.1.map kV)) ∧ RelV p.2 q.2.2) kvs xs ∧
      ∃ o es ep, h.get? a = some o ∧ o.ExactDict ∧ o.data = .dict es ep ∧ es.toList = xs.map (entryOfKey (tupleKind (mixKind P w))) ∧ (xs.map (·.1)).Nodup
  | .set S n => h.SetOf (intKind P w) a S n
  | .ins C dx fs => H dx = some (.own a) ∧ fs.length ≤ 1000 ∧ dx ≠ a ∧ h.get? a = some (PySem.W.instObj C dx) ∧
      ∃ mA, h.Ns1 dx mA ∧ (∀ f, RelO (fs.lookup f) (mA f)) ∧ PySem.Within mA (fs.map (·.1))
  | .own _ => ∃ o, h.get? a = some o
  | .xd fs => ∃ mA, h.Ns1 a mA ∧ ∀ f, RelO (fs.lookup f) (mA f)
  | .rng lo hi => ∃ t u v, h.get? a = some { cls := .type "range", data := .fields #[.int lo t, .int hi u, .int 1 v] }
  | .frz o u => h.get? a = some o ∧ ObjOk H h a u
  | .tbl ps => h.get? a = some { cls := .none, data := .fields ps }
  | .met f x => h.get? a = some (PySem.W.methodObj (.ref f) (.ref x))
  | .ext φ => φ h ∧ (∃ o, h.get? a = some o) ∧ ∀ h1 h2 : Heap, φ h1 → (∀ o, h1.get? a = some o → h2.get? a = some o) → φ h2
def HOk (H : Hp) (h : Heap) : Prop := ∀ a o, H a = some o → ObjOk P w H h a o
end
section
variable {P : Program} {w : World} {H H' : Hp} {h h' : Heap} {a : Addr} {o : HO}
theorem ObjOk.lt (x : ObjOk P w H h a o) : a < h.objs.size := by
  cases o with
  | lst xs => obtain ⟨_, _, _, _, e⟩ := x; exact Heap.lt_size e
  | tup xs => obtain ⟨_, _, _, p⟩ := x; exact p.lt
  | dK kvs => obtain ⟨_, _, _, _, o, _, _, e, _⟩ := x; exact Heap.lt_size e
  | dT kvs => obtain ⟨_, _, _, _, o, _, _, e, _⟩ := x; exact Heap.lt_size e
  | set S n => obtain ⟨o, _, _, _, e, _⟩ := x; exact Heap.lt_size e
  | ins C dx fs => obtain ⟨_, _, _, e, _⟩ := x; exact Heap.lt_size e
  | own y => obtain ⟨_, e⟩ := x; exact Heap.lt_size e
  | xd fs => obtain ⟨_, ⟨_, _, _, e, _⟩, _⟩ := x; exact Heap.lt_size e
  | rng lo hi => obtain ⟨_, _, _, e⟩ := x; exact Heap.lt_size e
  | frz ob u => obtain ⟨e, _⟩ := x; exact Heap.lt_size e
  | tbl ps => exact Heap.lt_size (show h.get? a = some _ from x)
  | met f y => exact Heap.lt_size (show h.get? a = some _ from x)
  | ext φ => obtain ⟨_, ⟨_, e⟩, _⟩ := x; exact Heap.lt_size e
theorem Paired.mapP {α β : Type} {F G : α → β → Prop} : ∀ {l₁ : List α} {l₂ : List β}, Paired F l₁ l₂ → (∀ a b, F a b → G a b) → Paired G l₁ l₂
  | _, _, .nil, _ => .nil
  | _, _, .cons r t, f => .cons (f _ _ r) (Paired.mapP t f)
theorem ObjOk.stay (x : ObjOk P w H h a o) (k : ∀ b u, (b = a ∨ H b = some (.own a)) → h.get? b = some u → h'.get? b = some u)
    (ho : ∀ b, H b = some (.own a) → H' b = some (.own a)) (ht : ∀ b xs, H b = some (.tup xs) → H' b = some (.tup xs)) : ObjOk P w H' h' a o := by
  induction o with
  | lst xs => obtain ⟨z, its, n, r, e⟩ := x; exact ⟨z, its, n, r, k _ _ (.inl rfl) e⟩
  | tup xs => obtain ⟨z, its, r, ob, e, c⟩ := x; exact ⟨z, its, r, ob, k _ _ (.inl rfl) e, c⟩
  | dK kvs => obtain ⟨z, y, vs, r, ob, es, ep, e, c⟩ := x; exact ⟨z, y, vs, r, ob, es, ep, k _ _ (.inl rfl) e, c⟩
  | dT kvs =>
    obtain ⟨z, y, xs, r, ob, es, ep, e, c⟩ := x
    exact ⟨z, y, xs, Paired.mapP r fun p q z => ⟨z.1, ht _ _ z.2.1, z.2.2⟩, ob, es, ep, k _ _ (.inl rfl) e, c⟩
  | set S n => obtain ⟨ob, es, ep, t, e, c⟩ := x; exact ⟨ob, es, ep, t, k _ _ (.inl rfl) e, c⟩
  | ins C dx fs =>
    obtain ⟨d, z, ne, e, mA, ⟨od, es, ep, e2, c⟩, r⟩ := x
    exact ⟨ho _ d, z, ne, k _ _ (.inl rfl) e, mA, ⟨od, es, ep, k _ _ (.inr d) e2, c⟩, r⟩
  | own y => obtain ⟨ob, e⟩ := x; exact ⟨ob, k _ _ (.inl rfl) e⟩
  | xd fs => obtain ⟨mA, ⟨od, es, ep, e, c⟩, r⟩ := x; exact ⟨mA, ⟨od, es, ep, k _ _ (.inl rfl) e, c⟩, r⟩
  | rng lo hi => obtain ⟨t, u, v, e⟩ := x; exact ⟨t, u, v, k _ _ (.inl rfl) e⟩
  | frz ob u ih => obtain ⟨e, q⟩ := x; exact ⟨k _ _ (.inl rfl) e, ih q⟩
  | tbl ps =>
    have e : h.get? a = some { cls := .none, data := .fields ps } := x
    show h'.get? a = some { cls := .none, data := .fields ps }
    exact k a _ (.inl rfl) e
  | met f y =>
    have e : h.get? a = some (PySem.W.methodObj (.ref f) (.ref y)) := x
    show h'.get? a = some (PySem.W.methodObj (.ref f) (.ref y))
    exact k a _ (.inl rfl) e
  | ext φ => obtain ⟨p, ⟨o, e⟩, st⟩ := x; exact ⟨st _ _ p fun o q => k _ _ (.inl rfl) q, ⟨o, k _ _ (.inl rfl) e⟩, st⟩
theorem HOk.lt (x : HOk P w H h) (e : H a = some o) : a < h.objs.size := (x a o e).lt
theorem HOk.fresh (x : HOk P w H h) (e : h.objs.size ≤ a) : H a = none := by
  cases q : H a with
  | none => rfl
  | some u => exact absurd (Nat.lt_of_lt_of_le (x.lt q) e) (Nat.lt_irrefl _)
theorem HOk.kept (x : HOk P w H h) (k : ∀ b u, h.get? b = some u → h'.get? b = some u) : HOk P w H h' := fun a o e =>
  (x a o e).stay (fun b u _ q => k b u q) (fun _ q => q) fun _ _ q => q
theorem HOk.laid (x : HOk P w H h) (k : ∀ b u, h.get? b = some u → h'.get? b = some u) (hp : h.objs.size ≤ a) (new : ObjOk P w (upd H a o) h' a o) : HOk P w (upd H a o) h' := fun b u e => by
  have hn := x.fresh hp
  by_cases hb : b = a
  · subst hb; rw [upd_same] at e; cases e; exact new
  · rw [upd_ne hb] at e
    exact (x b u e).stay (fun c v _ q => k c v q) (fun c q => by rw [upd_ne (ne_of_none q hn)]; exact q) fun c xs q => by rw [upd_ne (ne_of_none q hn)]; exact q
end
def Rd (H : Hp) (a : Addr) (u : HO) : Prop := H a = some u ∨ ∃ o, H a = some (.frz o u)
theorem Rd.ok {P : Program} {w : World} {H : Hp} {h : Heap} {a : Addr} {u : HO} (r : Rd H a u) (x : HOk P w H h) : ObjOk P w H h a u := by
  rcases r with r | ⟨o, r⟩
  · exact x a u r
  · obtain ⟨_, q⟩ := x a _ r
    exact q
def Mut : Option HO → Prop
  | some (.lst _) => True
  | some (.dK _) => True
  | some (.dT _) => True
  | some (.set _ _) => True
  | some (.ins _ _ _) => True
  | some (.ext _) => True
  | _ => False
section
variable {P : Program} {w : World} {H : Hp} {h h' : Heap} {x e : Addr} {o' : HO}
theorem HOk.write (ok : HOk P w H h) (mu : Mut (H x)) (he : e = x ∨ H e = some (.own x)) (k : ∀ b u, b ≠ e → h.get? b = some u → h'.get? b = some u) (heo : ∃ u, h'.get? e = some u)
    (new : ObjOk P w (upd H x o') h' x o') : HOk P w (upd H x o') h' := fun b u q => by
  have nown : ∀ c y, H c = some (.own y) → c ≠ x := fun c y r z => by subst z; rw [r] at mu; exact mu
  have ntup : ∀ c xs, H c = some (.tup xs) → c ≠ x := fun c xs r z => by subst z; rw [r] at mu; exact mu
  by_cases hb : b = x
  · subst hb; rw [upd_same] at q; cases q; exact new
  · rw [upd_ne hb] at q
    by_cases hbe : b = e
    · have q' : H b = some (.own x) := by
        rcases he with z | z
        · exact absurd (hbe.trans z) hb
        · rw [hbe]; exact z
      rw [q] at q'; cases q'
      obtain ⟨v, hv⟩ := heo
      exact ⟨v, by rw [hbe]; exact hv⟩
    · refine (ok b u q).stay (fun c v hc r => k c v ?_ r) (fun c r => by rw [upd_ne (nown c b r)]; exact r) fun c xs r => by rw [upd_ne (ntup c xs r)]; exact r
      rcases hc with rfl | hc
      · exact hbe
      · rintro rfl
        rcases he with z | z
        · exact nown c b hc z
        · rw [hc] at z; cases z; exact hb rfl
end
structure Un (fs ex : List Addr) (H H' : Hp) (h h' : Heap) : Prop where
  keep : ∀ b o, h.get? b = some o → H b = none → b ∉ fs → b ∉ ex → h'.get? b = some o
  slot : ∀ b o, h.get? b = some o → H b = none → b ∈ fs → b ∉ ex → ∃ sl, h'.get? b = some { o with slots := sl }
  free : ∀ b o, h.get? b = some o → H b = none → b ∉ ex → H' b = none
  there : ∀ b o, h.get? b = some o → b ∉ ex → ∃ o', h'.get? b = some o'
  tups : ∀ b xs, H b = some (.tup xs) → H' b = some (.tup xs)
  frzs : ∀ b o u, H b = some (.frz o u) → H' b = some (.frz o u)
  tbls : ∀ b ps, H b = some (.tbl ps) → ∃ more, H' b = some (.tbl (ps ++ more))
section
variable {fs fs' ex ex' : List Addr} {H H1 H2 : Hp} {h h1 h2 h' : Heap} {a x e : Addr} {o : HO}
theorem Un.any (u : Un fs ex H H1 h h1) {b : Addr} {ob : Obj} (q : h.get? b = some ob) (n : H b = none) (hx : b ∉ ex) : ∃ sl, h1.get? b = some { ob with slots := sl } := by
  by_cases hb : b ∈ fs
  · exact u.slot b ob q n hb hx
  · exact ⟨ob.slots, u.keep b ob q n hb hx⟩
theorem Un.kept (k : ∀ b u, h.get? b = some u → h'.get? b = some u) : Un fs ex H H h h' :=
  ⟨fun b ob q _ _ _ => k b ob q, fun b ob q _ _ _ => ⟨ob.slots, k b ob q⟩, fun _ _ _ n _ => n, fun b ob q _ => ⟨ob, k b ob q⟩, fun _ _ q => q, fun _ _ _ q => q, fun _ ps q => ⟨#[], by rw [q]; simp⟩⟩
theorem Un.refl : Un fs ex H H h h := Un.kept fun _ _ q => q
theorem Un.laid (k : ∀ b u, h.get? b = some u → h'.get? b = some u) (hp : h.objs.size ≤ a) (hn : H a = none) : Un fs ex H (upd H a o) h h' where
  keep := fun b u q _ _ _ => k b u q
  slot := fun b u q _ _ _ => ⟨u.slots, k b u q⟩
  free := fun b u q n _ => by rw [upd_ne (Nat.ne_of_lt (Nat.lt_of_lt_of_le (Heap.lt_size q) hp))]; exact n
  there := fun b u q _ => ⟨u, k b u q⟩
  tups := fun b xs q => by rw [upd_ne (ne_of_none q hn)]; exact q
  frzs := fun b u xs q => by rw [upd_ne (ne_of_none q hn)]; exact q
  tbls := fun b ps q => ⟨#[], by rw [upd_ne (ne_of_none q hn), q]; simp⟩
theorem Un.write (mu : Mut (H x)) (he : e = x ∨ H e = some (.own x)) (k : ∀ b u, b ≠ e → h.get? b = some u → h'.get? b = some u) (heo : ∃ u, h'.get? e = some u) : Un fs ex H (upd H x o) h h' := by
  have hx : ∀ b, H b = none → b ≠ x := fun b n z => by subst z; rw [n] at mu; exact mu
  have hb : ∀ b, H b = none → b ≠ e := fun b n z => by
    subst z
    rcases he with r | r
    · exact hx b n r
    · rw [n] at r; cases r
  have hm : ∀ b u, H b = some u → ¬ Mut (some u) → b ≠ x := fun b u q nm z => by subst z; rw [q] at mu; exact nm mu
  refine ⟨fun b u q n _ _ => k b u (hb b n) q, fun b u q n _ _ => ⟨u.slots, k b u (hb b n) q⟩, fun b u q n _ => by rw [upd_ne (hx b n)]; exact n, fun b u q _ => ?_,
    fun b xs q => by rw [upd_ne (hm b _ q fun z => z)]; exact q, fun b u xs q => by rw [upd_ne (hm b _ q fun z => z)]; exact q, fun b ps q => ⟨#[], by rw [upd_ne (hm b _ q fun z => z), q]; simp⟩⟩
  by_cases hbe : b = e
  · subst hbe; exact heo
  · exact ⟨u, k b u hbe q⟩
end
def trk (h : Heap) (H : Hp) : List Addr := (List.range h.objs.size).filter fun a => (H a).isSome
def hidT (h : Heap) (H : Hp) : Heap := PySem.W.hideAll h (trk h H)
theorem hidT_size (h : Heap) (H : Hp) : (hidT h H).objs.size = h.objs.size := PySem.W.hideAll_size _ _
theorem hidT_get {h : Heap} {H : Hp} {b : Addr} {o : Obj} (e : h.get? b = some o) (n : H b = none) : (hidT h H).get? b = some o :=
  PySem.W.hideAll_get _ e fun hm => by
    have q : (H b).isSome = true := (List.mem_filter.mp hm).2
    rw [n] at q; simp at q
theorem of_hidT {h : Heap} {H : Hp} {b : Addr} {o : Obj} (e : (hidT h H).get? b = some o) : h.get? b = some o ∧ H b = none := by
  have e' : h.get? b = some o := PySem.W.of_hideAll (trk h H) e
  refine ⟨e', ?_⟩
  cases q : H b with
  | none => rfl
  | some x =>
    have hm : b ∈ trk h H := List.mem_filter.mpr ⟨List.mem_range.mpr (Heap.lt_size e'), by simp [q]⟩
    have z : (hidT h H).get? b = none := PySem.W.hideAll_none (trk h H) hm
    rw [z] at e; cases e
def allNews (g h : Heap) (L : Addr) : List (Addr × Obj) := (List.range h.objs.size).filterMap fun a => if a = L ∨ (g.get? a).isSome = true then none else (h.get? a).map fun o => (a, o)
def rest (g h : Heap) (L d : Addr) : List (Addr × Obj) := (allNews g h L).filter fun p => decide (p.1 ≠ d)
end L2
namespace L2
open PySem PySem.Spec PyProof.Rows
structure Mod (K : PySem.W.Frag) (mg : Str → Option Value) (base : Heap) : Prop where
  kin : K.In base
  glob : base.Ns mainGlobals mg
  blt : ∃ mb, base.Ns builtinsNs mb ∧ ∀ x : Str, x ≠ "__name__" → mb x = bootBuiltins x
  nolimit : base.NoLimit
/-- the context: a def's body (or a comprehension's block) running. base: fixed through the whole law; s₀, H₀: the entry; outer: the frames whose slots others may change (a def's callers); stack: all frames that run;
   ex: iterators that were made ahead of the entry and are walked here (a comprehension's); fn: the names whose cells were made at the entry (a def: all; a comprehension's block: its own); calm: not within an except suite; pn: pins that every state bears; xe: what is wanted of an exception that leaves the code -/
structure Cx where
  prog : Program
  w : World
  K : PySem.W.Frag
  mg : Str → Option Value
  base : Heap
  A : Around
  N : List Str
  s₀ : Shared
  H₀ : Hp
  env : Env
  outer : List Env
  stack : List Env
  ex : List Addr
  fn : Str → Bool
  calm : Bool
  pn : List (Addr × Obj)
  xe : Value → Shared → Prop
def frs (l : List Env) : List Addr := l.filterMap (·.frame)
abbrev Cx.fs (X : Cx) : List Addr := frs X.outer
def Vis (sc : Scope) (x : Str) : Prop := sc.names.lookup x = some .local ∨ sc.names.lookup x = some .cell ∨ sc.names.lookup x = some .free
def Loc (sc : Scope) (x : Str) : Prop := sc.names.lookup x = some .local ∨ sc.names.lookup x = some .cell
def Look (env : Env) (h : Heap) (m : Str → Option Value) (x : Str) (u : Value) : Prop :=
  (env.kindOf x = some .local ∧ m x = some u) ∨ ((env.kindOf x = some .cell ∨ env.kindOf x = some .free) ∧ ∃ c, env.cells.lookup x = some c ∧ h.IsCell c (some u))
structure Cx.Ok (X : Cx) : Prop where
  mod : Mod X.K X.mg X.base
  kind : X.env.scope.kind = .function
  glob : X.env.globals = mainGlobals
  blt : X.env.builtins = builtinsNs
  above : X.s₀.heap.objs.size ≤ X.env.locals
  inj : ∀ x y c, X.env.cells.lookup x = some c → X.env.cells.lookup y = some c → x = y
  has : ∀ x, (X.env.kindOf x = some .cell ∨ X.env.kindOf x = some .free) → ∃ c, X.env.cells.lookup x = some c
  cab : ∀ x c, X.fn x = true → X.env.cells.lookup x = some c → X.s₀.heap.objs.size ≤ c
  hd : X.calm = true → X.A.handled = none
  frames : X.A.frames = some X.stack
  stk : X.stack = X.outer ∨ (X.stack = X.env :: X.outer ∧ X.env.frame = some X.env.locals)
  exf : ∀ b ∈ X.ex, b ≠ X.env.locals ∧ ∀ x c, X.env.cells.lookup x = some c → c ≠ b
  bs : ∀ b o, X.base.get? b = some o → X.s₀.heap.get? b = some o ∧ X.H₀ b = none
  bsz : X.base.objs.size ≤ X.s₀.heap.objs.size
  noex : ∀ b o, X.base.get? b = some o → b ∉ X.ex
  exfs : ∀ b ∈ X.ex, b ∉ X.fs
  funs : X.s₀.heap.FunFrames X.base X.outer
  frf : ∀ b ∈ X.fs, X.H₀ b = none
structure Inv (X : Cx) (pins : List (Addr × Obj)) (σ : List (Option V)) (H : Hp) (s : Shared) : Prop where
  ok : X.Ok
  os : s.os = X.s₀.os
  bare : AllBare s.gens
  base : Un X.fs X.ex X.H₀ H X.s₀.heap s.heap
  loc : ∃ m, s.heap.Ns X.env.locals m ∧ ∀ (i : Nat) (x : Str) (v : V), X.N[i]? = some x → σ[i]? = some (some v) → Vis X.env.scope x → ∃ u, RelV v u ∧ Look X.env s.heap m x u
  cell : ∀ x c, X.env.cells.lookup x = some c → ∃ v, s.heap.IsCell c v
  free : H X.env.locals = none
  freeC : ∀ x c, X.env.cells.lookup x = some c → H c = none
  pin : ∀ p ∈ X.pn ++ pins, s.heap.get? p.1 = some p.2 ∧ H p.1 = none ∧ p.1 ≠ X.env.locals ∧ p.1 ∉ X.fs ∧ ∀ v, p.2.data ≠ .cell v
  hok : HOk X.prog X.w H s.heap
  len : σ.length = X.N.length
section
variable {X : Cx} {pins : List (Addr × Obj)} {σ : List (Option V)} {H H' : Hp} {s : Shared} {h' : Heap}
theorem Cx.Ok.nofr (ok : X.Ok) {b : Addr} {o : Obj} (e : X.base.get? b = some o) : b ∉ X.fs := fun hb => by
  have := (ok.funs.mem hb).1
  rw [e] at this; cases this
theorem Inv.bs (I : Inv X pins σ H s) : ∀ b o, X.base.get? b = some o → s.heap.get? b = some o ∧ H b = none := fun b o e =>
  ⟨I.base.keep b o (I.ok.bs b o e).1 (I.ok.bs b o e).2 (I.ok.nofr e) (I.ok.noex b o e), I.base.free b o (I.ok.bs b o e).1 (I.ok.bs b o e).2 (I.ok.noex b o e)⟩
theorem Inv.bk (I : Inv X pins σ H s) : ∀ b o, X.base.get? b = some o → s.heap.get? b = some o := fun b o e => (I.bs b o e).1
theorem Inv.mod (I : Inv X pins σ H s) : Mod X.K X.mg X.base := I.ok.mod
theorem Inv.kIn (I : Inv X pins σ H s) : X.K.In s.heap := I.ok.mod.kin.keeps I.bk
theorem Inv.lt (I : Inv X pins σ H s) : X.env.locals < s.heap.objs.size := let ⟨_, hn, _⟩ := I.loc; hn.lt
theorem Inv.sz (I : Inv X pins σ H s) : X.s₀.heap.objs.size ≤ s.heap.objs.size := Nat.le_trans I.ok.above (Nat.le_of_lt I.lt)
theorem Inv.nofs (I : Inv X pins σ H s) {a : Addr} (h : s.heap.objs.size ≤ a) : a ∉ X.fs := fun hb => by
  obtain ⟨_, o, ho, _⟩ := I.ok.funs.mem hb
  exact absurd (Nat.lt_of_lt_of_le (Heap.lt_size ho) (Nat.le_trans I.sz h)) (Nat.lt_irrefl _)
theorem Inv.cne (I : Inv X pins σ H s) : ∀ x c, X.env.cells.lookup x = some c → c ≠ X.env.locals := fun x c e z => by
  obtain ⟨v, o, ho, hd⟩ := I.cell x c e
  obtain ⟨m, ⟨o', es, ep, ho', hd', _⟩, _⟩ := I.loc
  rw [z, ho'] at ho; cases ho; rw [hd'] at hd; cases hd
theorem Inv.funs (I : Inv X pins σ H s) : s.heap.FunFrames X.base X.outer := by
  have all : ∀ (l : List Env), (∀ b ∈ frs l, b ∈ X.fs) → X.s₀.heap.FunFrames X.base l → s.heap.FunFrames X.base l := by
    intro l
    induction l with
    | nil => intro _ _; trivial
    | cons env r ih =>
      intro hs hl
      obtain ⟨hk, ⟨L, o, hf, hn, ho, hd⟩, hr⟩ := hl
      have hL : L ∈ X.fs := hs L (by unfold frs; rw [List.filterMap_cons, hf]; exact List.mem_cons_self)
      obtain ⟨sl, e⟩ := I.base.slot L o ho (I.ok.frf L hL) hL fun z => I.ok.exfs L z hL
      exact ⟨hk, ⟨L, _, hf, hn, e, hd⟩, ih (fun b hb => hs b (by unfold frs; rw [List.filterMap_cons, hf]; exact List.mem_cons_of_mem _ hb)) hr⟩
  exact all X.outer (fun _ hb => hb) I.ok.funs
theorem Inv.stack (I : Inv X pins σ H s) : s.heap.FunFrames X.base X.stack := by
  rcases I.ok.stk with e | ⟨e, hf⟩
  · rw [e]; exact I.funs
  · rw [e]
    obtain ⟨m, hn, _⟩ := I.loc
    refine .cons (by rw [I.ok.kind]; decide) hf hn ?_ I.funs
    exact Heap.get?_none_of_le (Nat.le_trans I.ok.bsz I.ok.above)
theorem Inv.stkSub (I : Inv X pins σ H s) : ∀ b ∈ frs X.stack, b ∈ X.env.locals :: X.fs := fun b hb => by
  rcases I.ok.stk with e | ⟨e, hf⟩
  · rw [e] at hb; exact List.mem_cons_of_mem _ hb
  · rw [e] at hb
    unfold frs at hb
    rw [List.filterMap_cons, hf] at hb
    exact hb
theorem Inv.stkFree (I : Inv X pins σ H s) : ∀ b ∈ frs X.stack, H b = none := fun b hb => by
  rcases List.mem_cons.mp (I.stkSub b hb) with e | hb
  · rw [e]; exact I.free
  · obtain ⟨_, o, ho, _⟩ := I.ok.funs.mem hb
    exact I.base.free b o ho (I.ok.frf b hb) fun z => I.ok.exfs b z hb
theorem Inv.step {g' : Array GenState} {t' : Nat} {d' : Drawn} {ch : List Addr} (I : Inv X pins σ H s)
    (hch : ∀ b ∈ ch, (b ∈ X.ex ∨ X.s₀.heap.objs.size ≤ b) ∧ b ≠ X.env.locals ∧ (∀ x c, X.env.cells.lookup x = some c → c ≠ b) ∧ ∀ p ∈ X.pn ++ pins, p.1 ≠ b)
    (keep : ∀ b o, b ≠ X.env.locals → b ∉ X.fs → b ∉ ch → s.heap.get? b = some o → H b = none → h'.get? b = some o)
    (slot : ∀ b o, b ≠ X.env.locals → b ∈ X.fs → b ∉ ch → s.heap.get? b = some o → H b = none → ∃ sl, h'.get? b = some { o with slots := sl }) (free : ∀ b o, b ∉ ch → s.heap.get? b = some o → H b = none → H' b = none)
    (there : ∀ b o, b ∉ ch → s.heap.get? b = some o → ∃ o', h'.get? b = some o')
    (tups : ∀ b xs, H b = some (.tup xs) → H' b = some (.tup xs)) (frzs : ∀ b o u, H b = some (.frz o u) → H' b = some (.frz o u)) (tbls : ∀ b ps, H b = some (.tbl ps) → ∃ more, H' b = some (.tbl (ps ++ more)))
    (ns : ∀ m, s.heap.Ns X.env.locals m → h'.Ns X.env.locals m) (hok : HOk X.prog X.w H' h') (hg : AllBare g') :
    Inv X pins σ H' { s with heap := h', gens := g', drawn := d', toks := t' } := by
  have neL : ∀ b o, X.s₀.heap.get? b = some o → b ≠ X.env.locals := fun b o e => Nat.ne_of_lt (Nat.lt_of_lt_of_le (Heap.lt_size e) I.ok.above)
  have neC : ∀ b o, X.s₀.heap.get? b = some o → b ∉ X.ex → b ∉ ch := fun b o e hx hb => by
    rcases (hch b hb).1 with z | z
    · exact hx z
    · exact absurd (Nat.lt_of_lt_of_le (Heap.lt_size e) z) (Nat.lt_irrefl _)
  have cellK : ∀ x c, X.env.cells.lookup x = some c → ∀ v, s.heap.IsCell c v → h'.IsCell c v := fun x c e v ⟨o, ho, hd⟩ => by
    have nch : c ∉ ch := fun z => (hch c z).2.2.1 x c e rfl
    by_cases hc : c ∈ X.fs
    · obtain ⟨sl, q⟩ := slot c o (I.cne x c e) hc nch ho (I.freeC x c e)
      exact ⟨_, q, hd⟩
    · exact ⟨o, keep c o (I.cne x c e) hc nch ho (I.freeC x c e), hd⟩
  refine ⟨I.ok, I.os, hg, ⟨fun b o e n hb hx => ?_, fun b o e n hb hx => ?_, fun b o e n hx => ?_, fun b o e hx => ?_, fun b xs e => tups b xs (I.base.tups b xs e), fun b o xs e => frzs b o xs (I.base.frzs b o xs e), fun b ps e => ?_⟩, ?_, fun x c e => ?_, ?_, fun x c e => ?_, fun p hp => ?_, hok, I.len⟩
  · exact keep b o (neL b o e) hb (neC b o e hx) (I.base.keep b o e n hb hx) (I.base.free b o e n hx)
  · obtain ⟨sl, e1⟩ := I.base.slot b o e n hb hx
    obtain ⟨sl', e2⟩ := slot b _ (neL b o e) hb (neC b o e hx) e1 (I.base.free b o e n hx)
    exact ⟨sl', e2⟩
  · obtain ⟨o', e1⟩ := I.base.there b o e hx
    exact free b o' (neC b o e hx) e1 (I.base.free b o e n hx)
  · obtain ⟨o', e1⟩ := I.base.there b o e hx
    exact there b o' (neC b o e hx) e1
  · obtain ⟨m1, e1⟩ := I.base.tbls b ps e
    obtain ⟨m2, e2⟩ := tbls b _ e1
    exact ⟨m1 ++ m2, by rw [e2, Array.append_assoc]⟩
  · obtain ⟨m, hn, hl⟩ := I.loc
    refine ⟨m, ns m hn, fun i x v e1 e2 e3 => ?_⟩
    obtain ⟨u, r, l⟩ := hl i x v e1 e2 e3
    refine ⟨u, r, ?_⟩
    rcases l with l | ⟨k, c, e, z⟩
    · exact .inl l
    · exact .inr ⟨k, c, e, cellK x c e _ z⟩
  · obtain ⟨v, z⟩ := I.cell x c e
    exact ⟨v, cellK x c e v z⟩
  · obtain ⟨m, ⟨o, _, _, ho, _⟩, _⟩ := I.loc
    exact free _ o (fun z => (hch _ z).2.1 rfl) ho I.free
  · obtain ⟨v, o, ho, hd⟩ := I.cell x c e
    exact free c o (fun z => (hch c z).2.2.1 x c e rfl) ho (I.freeC x c e)
  · obtain ⟨e, n, ne, nf, d⟩ := I.pin p hp
    have nch : p.1 ∉ ch := fun z => (hch p.1 z).2.2.2 p hp rfl
    exact ⟨keep p.1 p.2 ne nf nch e n, free p.1 p.2 nch e n, ne, nf, d⟩
theorem Inv.un {t' : Nat} (I : Inv X pins σ H s) (u : Un X.fs [] H H' s.heap h') (hok : HOk X.prog X.w H' h') : Inv X pins σ H' { s with heap := h', toks := t' } := by
  obtain ⟨m, ⟨o, es, ep, ho, r⟩, _⟩ := id I.loc
  obtain ⟨sl, hL⟩ := u.any ho I.free (by simp)
  exact I.step (g' := s.gens) (d' := s.drawn) (ch := []) (fun _ z => nomatch z) (fun b o _ hb _ e n => u.keep b o e n hb (by simp)) (fun b o _ hb _ e n => u.slot b o e n hb (by simp)) (fun b o _ e n => u.free b o e n (by simp)) (fun b o _ e => u.there b o e (by simp)) u.tups u.frzs u.tbls (fun m' hm => by
    obtain ⟨o', es', ep', ho', r'⟩ := hm
    rw [ho] at ho'; cases ho'
    exact ⟨_, es', ep', hL, r'⟩) hok I.bare
theorem Inv.call {g' : Array GenState} {t' : Nat} {d' : Drawn} {ch : List Addr} (I : Inv X pins σ H s) (u : Un (frs X.stack) ch H H' s.heap h') (hok : HOk X.prog X.w H' h') (hg : AllBare g')
    (hch : ∀ b ∈ ch, (b ∈ X.ex ∨ X.s₀.heap.objs.size ≤ b) ∧ b ≠ X.env.locals ∧ (∀ x c, X.env.cells.lookup x = some c → c ≠ b) ∧ ∀ p ∈ X.pn ++ pins, p.1 ≠ b) :
    Inv X pins σ H' { s with heap := h', gens := g', drawn := d', toks := t' } := by
  obtain ⟨m, ⟨o, es, ep, ho, r⟩, _⟩ := id I.loc
  obtain ⟨sl, hL⟩ := u.any ho I.free fun z => (hch _ z).2.1 rfl
  exact I.step (ch := ch) hch (fun b o hL hb hc e n => u.keep b o e n (fun z => (List.mem_cons.mp (I.stkSub b z)).elim hL hb) hc) (fun b o _ _ hc e n => u.any e n hc) (fun b o hc e n => u.free b o e n hc) (fun b o hc e => u.there b o e hc) u.tups u.frzs u.tbls (fun m' hm => by
    obtain ⟨o', es', ep', ho', r'⟩ := hm
    rw [ho] at ho'; cases ho'
    exact ⟨_, es', ep', hL, r'⟩) hok hg
theorem Inv.turned {t' : Nat} {it : Addr} (I : Inv X pins σ H s) (k : ∀ b o, b ≠ it → s.heap.get? b = some o → h'.get? b = some o) (hn : H it = none) (hL : it ≠ X.env.locals)
    (h1 : it ∈ X.ex ∨ X.s₀.heap.objs.size ≤ it) (h2 : ∀ x c, X.env.cells.lookup x = some c → c ≠ it) (h3 : ∀ p ∈ X.pn ++ pins, p.1 ≠ it) : Inv X pins σ H { s with heap := h', toks := t' } := by
  have nit : ∀ b u, H b = some u → b ≠ it := fun b u e z => by rw [z, hn] at e; cases e
  refine I.step (g' := s.gens) (d' := s.drawn) (ch := [it]) (fun b hb => ?_) (fun b o _ _ hc e _ => k b o (fun z => hc (by simp [z])) e) (fun b o _ _ hc e _ => ⟨o.slots, k b o (fun z => hc (by simp [z])) e⟩) (fun _ _ _ _ n => n)
    (fun b o hc e => ⟨o, k b o (fun z => hc (by simp [z])) e⟩) (fun _ _ e => e) (fun _ _ _ e => e) (fun b ps e => ⟨#[], by rw [e]; simp⟩) (fun m hm => ?_) (fun b u e => ?_) I.bare
  · have e : b = it := by simpa using hb
    subst e
    exact ⟨h1, hL, h2, h3⟩
  · obtain ⟨o, es, ep, ho, r⟩ := hm
    exact ⟨o, es, ep, k _ o (Ne.symm hL) ho, r⟩
  · refine (I.hok b u e).stay (fun c v hc q => k c v ?_ q) (fun _ q => q) fun _ _ q => q
    rcases hc with z | z
    · rw [z]; exact nit b u e
    · exact nit c _ z
theorem Inv.tok (I : Inv X pins σ H s) (t : Nat) : Inv X pins σ H { s with toks := t } := I.un (h' := s.heap) (t' := t) Un.refl I.hok
theorem Inv.kept {t' : Nat} (I : Inv X pins σ H s) (k : ∀ b u, s.heap.get? b = some u → h'.get? b = some u) : Inv X pins σ H { s with heap := h', toks := t' } := I.un (Un.kept k) (I.hok.kept k)
theorem Inv.laid {a : Addr} {o : HO} {t' : Nat} (I : Inv X pins σ H s) (k : ∀ b u, s.heap.get? b = some u → h'.get? b = some u) (hp : s.heap.objs.size ≤ a) (new : ObjOk X.prog X.w (upd H a o) h' a o) :
    Inv X pins σ (upd H a o) { s with heap := h', toks := t' } := I.un (Un.laid k hp (I.hok.fresh hp)) (I.hok.laid k hp new)
theorem Inv.write {x e : Addr} {o : HO} {t' : Nat} (I : Inv X pins σ H s) (mu : Mut (H x)) (he : e = x ∨ H e = some (.own x)) (k : ∀ b u, b ≠ e → s.heap.get? b = some u → h'.get? b = some u) (heo : ∃ u, h'.get? e = some u)
    (new : ObjOk X.prog X.w (upd H x o) h' x o) : Inv X pins σ (upd H x o) { s with heap := h', toks := t' } := I.un (Un.write mu he k heo) (I.hok.write mu he k heo new)
theorem Inv.weak {σ' : List (Option V)} (I : Inv X pins σ H s) (hl : σ'.length = σ.length) (w : ∀ (i : Nat) v, σ'[i]? = some (some v) → σ[i]? = some (some v)) : Inv X pins σ' H s :=
  ⟨I.ok, I.os, I.bare, I.base, let ⟨m, hn, hl'⟩ := I.loc; ⟨m, hn, fun i x v e1 e2 e3 => hl' i x v e1 (w i v e2) e3⟩, I.cell, I.free, I.freeC, I.pin, I.hok, hl.trans I.len⟩
theorem Inv.pins_of {pins' : List (Addr × Obj)} (I : Inv X pins σ H s) (h : ∀ p ∈ pins', s.heap.get? p.1 = some p.2 ∧ H p.1 = none ∧ p.1 ≠ X.env.locals ∧ p.1 ∉ X.fs ∧ ∀ v, p.2.data ≠ .cell v) : Inv X pins' σ H s :=
  ⟨I.ok, I.os, I.bare, I.base, I.loc, I.cell, I.free, I.freeC, fun p hp => (List.mem_append.mp hp).elim (fun z => I.pin p (List.mem_append_left _ z)) (h p), I.hok, I.len⟩
theorem nodup_ix {N : List Str} (hN : N.Nodup) {i j : Nat} {x : Str} (a : N[i]? = some x) (b : N[j]? = some x) : i = j := by
  obtain ⟨h1, e1⟩ := List.getElem?_eq_some_iff.mp a
  obtain ⟨h2, e2⟩ := List.getElem?_eq_some_iff.mp b
  exact (List.getElem_inj hN).mp (e1.trans e2.symm)
theorem store_ok2 {M : Model} {A : Around} {E : Value → Shared → Prop} {i : Nat} {x : Str} {v : V} {u : Value} {Q : Unit → Shared → Prop} (I : Inv X pins σ H s) (hN : X.N.Nodup) (hi : X.N[i]? = some x) (hx : Loc X.env.scope x) (r : RelV v u)
    (h : ∀ s', Inv X pins (σ.set i (some v)) H s' → (∃ a, Heap.SameBut a s.heap s'.heap ∧ (a = X.env.locals ∨ X.env.cells.lookup x = some a)) → Q () s') (hf : X.fn x = true ∨ X.env.scope.names.lookup x = some .local := by first | exact .inl rfl | exact .inr rfl | assumption) : wpAny M A (storeName X.env x u) Q E s := by
  obtain ⟨m, hn, hl⟩ := id I.loc
  have hcls : (X.env.scope.kind == .class || (X.env.scope.kind == .module && X.env.locals != X.env.globals)) = false := by rw [I.ok.kind]; rfl
  have hiσ : i < σ.length := by rw [I.len]; exact (List.getElem?_eq_some_iff.mp hi).1
  have cne := I.cne
  have tracked : ∀ {a : Addr} {h' : Heap}, (∃ o, s.heap.get? a = some o ∧ H a = none) → Heap.SameBut a s.heap h' → HOk X.prog X.w H h' := fun {a h'} ha hs b ob e => by
    obtain ⟨_, _, hfree⟩ := ha
    refine (I.hok b ob e).stay (fun c w' hc q => (hs.2 c ?_).trans q) (fun _ q => q) fun _ _ q => q
    rintro rfl
    rcases hc with rfl | hc
    · rw [hfree] at e; cases e
    · rw [hfree] at hc; cases hc
  rcases hx with hk | hk
  · refine wpAny_storeName_local hk hn (fun h' hn' hs => ?_) hcls
    obtain ⟨oL, _, _, hoL, _⟩ := id hn
    refine h _ ⟨I.ok, I.os, I.bare, ⟨fun b o e n hb hx => ?_, fun b o e n hb hx => ?_, I.base.free, fun b o e hx => ?_, I.base.tups, I.base.frzs, I.base.tbls⟩, ⟨_, hn', fun j y v' e1 e2 e3 => ?_⟩, fun y c e => ?_, I.free, I.freeC, fun p hp => ?_, tracked ⟨oL, hoL, I.free⟩ hs, by simpa using I.len⟩ ⟨_, hs, .inl rfl⟩
    · exact (hs.2 b (Nat.ne_of_lt (Nat.lt_of_lt_of_le (Heap.lt_size e) I.ok.above))).trans (I.base.keep b o e n hb hx)
    · obtain ⟨sl, e1⟩ := I.base.slot b o e n hb hx
      exact ⟨sl, (hs.2 b (Nat.ne_of_lt (Nat.lt_of_lt_of_le (Heap.lt_size e) I.ok.above))).trans e1⟩
    · obtain ⟨o', e1⟩ := I.base.there b o e hx
      exact ⟨o', (hs.2 b (Nat.ne_of_lt (Nat.lt_of_lt_of_le (Heap.lt_size e) I.ok.above))).trans e1⟩
    · by_cases hj : j = i
      · subst hj
        rw [hi] at e1; cases e1
        rw [List.getElem?_set_self hiσ] at e2
        cases e2
        exact ⟨u, r, .inl ⟨hk, by simp⟩⟩
      · rw [List.getElem?_set_ne (Ne.symm hj)] at e2
        obtain ⟨u', r', q⟩ := hl j y v' e1 e2 e3
        refine ⟨u', r', ?_⟩
        rcases q with ⟨k, e⟩ | ⟨k, c, e, z⟩
        · refine .inl ⟨k, ?_⟩
          have : y ≠ x := fun e => hj (nodup_ix hN e1 (e ▸ hi))
          simp [this, e]
        · exact .inr ⟨k, c, e, z.sameBut hs (cne y c e)⟩
    · obtain ⟨w', z⟩ := I.cell y c e
      exact ⟨w', z.sameBut hs (cne y c e)⟩
    · obtain ⟨e, n, ne, nf, d⟩ := I.pin p hp
      exact ⟨(hs.2 p.1 ne).trans e, n, ne, nf, d⟩
  · have hfn : X.fn x = true := by
      rcases hf with z | z
      · exact z
      · rw [z] at hk; cases hk
    obtain ⟨c, hc⟩ := I.ok.has x (.inl hk)
    obtain ⟨w', z⟩ := I.cell x c hc
    refine wpAny_storeName_cell I.ok.kind hk hc z (fun h' hc' hs => ?_)
    obtain ⟨oc, hoc, hocd⟩ := id z
    refine h { s with heap := h' } ⟨I.ok, I.os, I.bare, ⟨fun b o e n hb hx => ?_, fun b o e n hb hx => ?_, I.base.free, fun b o e hx => ?_, I.base.tups, I.base.frzs, I.base.tbls⟩, ⟨m, hn.sameBut hs (Ne.symm (cne x c hc)), fun j y v' e1 e2 e3 => ?_⟩, fun y c' e => ?_, I.free, I.freeC, fun p hp => ?_, tracked ⟨oc, hoc, I.freeC x c hc⟩ hs, by simpa using I.len⟩ ⟨c, hs, .inr hc⟩
    · exact (hs.2 b (Nat.ne_of_lt (Nat.lt_of_lt_of_le (Heap.lt_size e) (I.ok.cab x c hfn hc)))).trans (I.base.keep b o e n hb hx)
    · obtain ⟨sl, e1⟩ := I.base.slot b o e n hb hx
      exact ⟨sl, (hs.2 b (Nat.ne_of_lt (Nat.lt_of_lt_of_le (Heap.lt_size e) (I.ok.cab x c hfn hc)))).trans e1⟩
    · obtain ⟨o', e1⟩ := I.base.there b o e hx
      exact ⟨o', (hs.2 b (Nat.ne_of_lt (Nat.lt_of_lt_of_le (Heap.lt_size e) (I.ok.cab x c hfn hc)))).trans e1⟩
    · by_cases hj : j = i
      · subst hj
        rw [hi] at e1; cases e1
        rw [List.getElem?_set_self hiσ] at e2
        cases e2
        exact ⟨u, r, .inr ⟨.inl hk, c, hc, hc'⟩⟩
      · rw [List.getElem?_set_ne (Ne.symm hj)] at e2
        obtain ⟨u', r', q⟩ := hl j y v' e1 e2 e3
        refine ⟨u', r', ?_⟩
        rcases q with q | ⟨k, c', e, z'⟩
        · exact .inl q
        · refine .inr ⟨k, c', e, z'.sameBut hs ?_⟩
          rintro rfl
          exact hj (nodup_ix hN e1 (I.ok.inj _ _ _ e hc ▸ hi))
    · by_cases hcc : c' = c
      · subst hcc; exact ⟨_, hc'⟩
      · obtain ⟨w2, z2⟩ := I.cell y c' e
        exact ⟨w2, z2.sameBut hs hcc⟩
    · obtain ⟨e, n, ne, nf, d⟩ := I.pin p hp
      refine ⟨(hs.2 p.1 ?_).trans e, n, ne, nf, d⟩
      intro q
      rw [q, hoc] at e
      have q' : oc = p.2 := Option.some.inj e
      exact d w' (by rw [← q']; exact hocd)
theorem store_ok {M : Model} {A : Around} {E : Value → Shared → Prop} {i : Nat} {x : Str} {v : V} {u : Value} {Q : Unit → Shared → Prop} (I : Inv X pins σ H s) (hN : X.N.Nodup) (hi : X.N[i]? = some x) (hx : Loc X.env.scope x) (r : RelV v u)
    (h : ∀ s', Inv X pins (σ.set i (some v)) H s' → Q () s') (hf : X.fn x = true ∨ X.env.scope.names.lookup x = some .local := by first | exact .inl rfl | exact .inr rfl | assumption) : wpAny M A (storeName X.env x u) Q E s :=
  store_ok2 I hN hi hx r (fun s' I' _ => h s' I') hf
theorem Inv.call' {s' : Shared} {ch : List Addr} (I : Inv X pins σ H s) (ho : s'.os = s.os) (u : Un (frs X.stack) ch H H' s.heap s'.heap) (hok : HOk X.prog X.w H' s'.heap) (hg : AllBare s'.gens)
    (hch : ∀ b ∈ ch, (b ∈ X.ex ∨ X.s₀.heap.objs.size ≤ b) ∧ b ≠ X.env.locals ∧ (∀ x c, X.env.cells.lookup x = some c → c ≠ b) ∧ ∀ p ∈ X.pn ++ pins, p.1 ≠ b) : Inv X pins σ H' s' := by
  obtain ⟨h', g', d', t', o'⟩ := s'
  have e : o' = s.os := ho
  subst e
  exact I.call (g' := g') (t' := t') (d' := d') u hok hg hch
end
abbrev XK := Value → Option Addr → Hp → Prop
abbrev St := List (Option V)
abbrev VK := V → Hp → Prop
abbrev TE := St → Hp → VK → Prop
abbrev TT := St → Hp → (Bool → Hp → Prop) → Prop
abbrev TA := St → Hp → (List V → Hp → Prop) → Prop
structure Ends where
  nx : St → Hp → Prop
  rt : VK
  bk : St → Hp → Prop := fun _ _ => False
  ct : St → Hp → Prop := fun _ _ => False
abbrev TS := Ends → St → Hp → Prop
def EP (X : Cx) (pins : List (Addr × Obj)) (σ : St) (Q : VK) (u : Value) (s' : Shared) : Prop := ∃ v H', Inv X pins σ H' s' ∧ RelV v u ∧ Q v H'
def TP (X : Cx) (pins : List (Addr × Obj)) (σ : St) (Q : Bool → Hp → Prop) (b : Bool) (s' : Shared) : Prop := ∃ H', Inv X pins σ H' s' ∧ Q b H'
def AP (X : Cx) (pins : List (Addr × Obj)) (σ : St) (Q : List V → Hp → Prop) (us : List Value) (s' : Shared) : Prop := ∃ vs H', Inv X pins σ H' s' ∧ Vals vs us ∧ Q vs H'
def SP (X : Cx) (pins : List (Addr × Obj)) (D : Ends) (f : Flow) (s' : Shared) : Prop :=
  match f with
  | .next => ∃ σ' H', Inv X pins σ' H' s' ∧ D.nx σ' H'
  | .brk => ∃ σ' H', Inv X pins σ' H' s' ∧ D.bk σ' H'
  | .cont => ∃ σ' H', Inv X pins σ' H' s' ∧ D.ct σ' H'
  | .ret u => ∃ v σ' H', Inv X pins σ' H' s' ∧ RelV v u ∧ D.rt v H'
def PE (X : Cx) (e : Expr) (t : TE) : Prop :=
  ∀ (pins : List (Addr × Obj)) (s : Shared) (σ : St) (H : Hp) (Q : VK), Inv X pins σ H s → t σ H Q → wpAny (model X.prog X.w) X.A (eval e X.env) (EP X pins σ Q) X.xe s
def PT (X : Cx) (e : Expr) (t : TT) : Prop :=
  ∀ (pins : List (Addr × Obj)) (s : Shared) (σ : St) (H : Hp) (Q : Bool → Hp → Prop), Inv X pins σ H s → t σ H Q → wpAny (model X.prog X.w) X.A (isTrue e X.env (eval e X.env)) (TP X pins σ Q) X.xe s
def PW (X : Cx) (e : Expr) (t : TT) : Prop :=
  ∀ (whole : Sem Value) (pins : List (Addr × Obj)) (s : Shared) (σ : St) (H : Hp) (Q : Bool → Hp → Prop), Inv X pins σ H s → t σ H Q → wpAny (model X.prog X.w) X.A (isTrue e X.env whole) (TP X pins σ Q) X.xe s
theorem PW.pt {X : Cx} {e : Expr} {t : TT} (h : PW X e t) : PT X e t := h _
def PA (X : Cx) (es : List Expr) (t : TA) : Prop :=
  ∀ (pos : Pos) (pins : List (Addr × Obj)) (s : Shared) (σ : St) (H : Hp) (Q : List V → Hp → Prop), Inv X pins σ H s → t σ H Q → wpAny (model X.prog X.w) X.A (spliced (backTo pos (starEach es X.env))) (AP X pins σ Q) X.xe s
def PS (X : Cx) (st : Stmt) (t : TS) : Prop :=
  ∀ (pins : List (Addr × Obj)) (s : Shared) (σ : St) (H : Hp) (D : Ends), Inv X pins σ H s → t D σ H → wpAny (model X.prog X.w) X.A (exec st X.env) (SP X pins D) X.xe s
def PSs (X : Cx) (st : List Stmt) (t : TS) : Prop :=
  ∀ (pins : List (Addr × Obj)) (s : Shared) (σ : St) (H : Hp) (D : Ends), Inv X pins σ H s → t D σ H → wpAny (model X.prog X.w) X.A (execs st X.env) (SP X pins D) X.xe s
theorem thn {α : Type} {t : Sem α} {Q Q' : α → Shared → Prop} {M : Model} {A : Around} {E : Value → Shared → Prop} {s : Shared} (h : wpAny M A t Q E s) (hQ : ∀ a s, Q a s → Q' a s) : wpAny M A t Q' E s := wpAny_mono h hQ fun _ _ x => x
end L2
namespace L2
open PySem PySem.Spec PyProof.Rows
section
variable {X : Cx}
def tVar (i : Nat) : TE := fun σ H Q => ∃ v, σ[i]? = some (some v) ∧ Q v H
def tC (v : V) : TE := fun _ H Q => Q v H
theorem pe_var {i : Nat} {x : Str} {pos : Pos} (hN : X.N[i]? = some x) (hv : Vis X.env.scope x) (hd : (x == ("__debug__" : Str)) = false := by decide) (hcd : (x == ("__classdict__" : Str)) = false := by decide) : PE X (.Name x pos) (tVar i) := by
  intro pins s σ H Q I h
  obtain ⟨v, e, h⟩ := h
  obtain ⟨m, hn, hl⟩ := I.loc
  obtain ⟨u, r, l⟩ := hl i x v hN e hv
  have fin : EP X pins σ Q u s := ⟨v, H, I, r, h⟩
  rcases l with ⟨hk, hm⟩ | ⟨hk, c, hc, hcell⟩
  · exact wpAny_Name (wpAny_loadName_local I.ok.kind hk hn hm fin) hd
  · rcases hk with hk | hk
    · exact wpAny_Name (wpAny_loadName_cell I.ok.kind hk hc hcell fin) hd
    · exact wpAny_Name (wpAny_loadName_free I.ok.kind hk hc hcell fin hcd) hd
theorem pe_int {i j pos} : PE X (.Constant (.int i) j pos) (tC (.int i)) := fun _ _ _ H _ I h => wpAny_Constant_int ⟨.int i, H, I.tok _, ⟨_, rfl⟩, h⟩
theorem pe_bl {b j pos} : PE X (.Constant (.bool b) j pos) (tC (.bl b)) := fun _ _ _ H _ I h => Constant_bool ⟨.bl b, H, I, rfl, h⟩
theorem pe_non {j pos} : PE X (.Constant .none j pos) (tC .non) := fun _ _ _ H _ I h => Constant_none ⟨.non, H, I, rfl, h⟩
theorem pe_str {x j pos} : PE X (.Constant (.str x) j pos) (tC (.str x)) := fun _ _ _ H _ I h => Calls.Constant_str ⟨.str x, H, I.tok _, ⟨_, rfl⟩, h⟩
def Gl (X : Cx) (x : Str) : Prop := X.env.kindOf x = some .globalImplicit
theorem ld_glob {E : Value → Shared → Prop} {pins : List (Addr × Obj)} {s : Shared} {σ : St} {H : Hp} {x : Str} {u : Value} {pos : Pos} {Q : Value → Shared → Prop} (I : Inv X pins σ H s) (hg : Gl X x) (hm : X.mg x = some u) (h : Q u s)
    (hd : (x == ("__debug__" : Str)) = false := by decide) : wpAny (model X.prog X.w) X.A (eval (.Name x pos) X.env) Q E s :=
  Calls.Name_function_global I.ok.kind hg (Calls.loadGlobal_global (by rw [I.ok.glob]; exact I.mod.glob.keeps I.bk) hm h) hd
theorem ld_blt {E : Value → Shared → Prop} {pins : List (Addr × Obj)} {s : Shared} {σ : St} {H : Hp} {x : Str} {u : Value} {pos : Pos} {Q : Value → Shared → Prop} (I : Inv X pins σ H s) (hg : Gl X x) (hm : X.mg x = none) (hv : bootBuiltins x = some u) (h : Q u s)
    (hn : x ≠ "__name__" := by decide) (hd : (x == ("__debug__" : Str)) = false := by decide) : wpAny (model X.prog X.w) X.A (eval (.Name x pos) X.env) Q E s := by
  obtain ⟨mb, h1, h2⟩ := I.mod.blt
  exact Calls.Name_function_global I.ok.kind hg (Calls.loadGlobal_builtin (by rw [I.ok.glob]; exact I.mod.glob.keeps I.bk) hm (by rw [I.ok.blt]; exact h1.keeps I.bk) ((h2 x hn).trans hv) h) hd
theorem pe_glob {x : Str} {v : V} {u : Value} {pos : Pos} (hg : Gl X x) (hm : X.mg x = some u) (r : RelV v u) (hd : (x == ("__debug__" : Str)) = false := by decide) : PE X (.Name x pos) (tC v) :=
  fun _ _ _ H _ I h => ld_glob I hg hm ⟨v, H, I, r, h⟩ hd
theorem pe_bltn {x : Str} {v : V} {u : Value} {pos : Pos} (hg : Gl X x) (hm : X.mg x = none) (hv : bootBuiltins x = some u) (r : RelV v u) (hn : x ≠ "__name__" := by decide) (hd : (x == ("__debug__" : Str)) = false := by decide) : PE X (.Name x pos) (tC v) :=
  fun _ _ _ H _ I h => ld_blt I hg hm hv ⟨v, H, I, r, h⟩ hn hd
def t2I (ta tb : TE) (k : Int → Int → Hp → Prop) : St → Hp → Prop := fun σ H => ta σ H fun x H1 => tb σ H1 fun y H2 => ∃ i j, x = .int i ∧ y = .int j ∧ k i j H2
def tAdd (ta tb : TE) : TE := fun σ H Q => t2I ta tb (fun i j H2 => Q (.int (i + j)) H2) σ H
def tSub (ta tb : TE) : TE := fun σ H Q => t2I ta tb (fun i j H2 => Q (.int (i - j)) H2) σ H
def tMul (ta tb : TE) : TE := fun σ H Q => t2I ta tb (fun i j H2 => (-(2 ^ 64) < i ∧ i < 2 ^ 64) ∧ Q (.int (i * j)) H2) σ H
variable {a b : Expr} {ta tb : TE} {pos : Pos}
def PC (X : Cx) (op : CmpOp) (a b : Expr) (t : TE) : Prop :=
  ∀ (pins : List (Addr × Obj)) (s : Shared) (σ : St) (H : Hp) (Q : VK), Inv X pins σ H s → t σ H Q →
    wpAny (model X.prog X.w) X.A (eval a X.env) (fun v s₁ => wpAny (model X.prog X.w) X.A (eval b X.env) (fun u s₂ => wpAny (model X.prog X.w) X.A (compareOp op v u) (EP X pins σ Q) X.xe s₂) X.xe s₁) X.xe s
theorem nobehind (b : Expr) {op : CmpOp} (h : op ≠ .In) (h2 : op ≠ .NotIn) : behindInMarks op b = false := by
  have e1 : (op == CmpOp.In) = false := by cases op <;> first | rfl | exact absurd rfl h
  have e2 : (op == CmpOp.NotIn) = false := by cases op <;> first | rfl | exact absurd rfl h2
  cases b <;> simp [behindInMarks, e1, e2]
def tCmp (p : Int → Int → Bool) (ta tb : TE) : TE := fun σ H Q => t2I ta tb (fun i j H2 => Q (.bl (p i j)) H2) σ H
abbrev tLt : TE → TE → TE := tCmp fun i j => decide (i < j)
abbrev tLe : TE → TE → TE := tCmp fun i j => decide (i ≤ j)
abbrev tGt : TE → TE → TE := tCmp fun i j => decide (j < i)
abbrev tGe : TE → TE → TE := tCmp fun i j => decide (j ≤ i)
abbrev tEqI : TE → TE → TE := tCmp fun i j => decide (i = j)
abbrev tNeI : TE → TE → TE := tCmp fun i j => !decide (i = j)
def tIsN (ta : TE) : TE := fun σ H Q => ta σ H fun x H1 => Q (.bl (decide (x = .non))) H1
def tNotN (ta : TE) : TE := fun σ H Q => ta σ H fun x H1 => Q (.bl (!decide (x = .non))) H1
theorem RelV.none_iff {x : V} {v : Value} (r : RelV x v) : (v == Value.none) = decide (x = .non) := by
  cases x with
  | non => cases r; rfl
  | bl _ => cases r; rfl
  | int _ => obtain ⟨t, rfl⟩ := r; rfl
  | str _ => obtain ⟨t, rfl⟩ := r; rfl
  | byt _ => obtain ⟨t, rfl⟩ := r; rfl
  | flt _ => obtain ⟨t, rfl⟩ := r; rfl
  | ref _ => cases r; rfl
  | ty _ => cases r; rfl
theorem pc_isN {j pos'} (ha : PE X a ta) : PC X .Is a (.Constant .none j pos') (tIsN ta) := by
  intro pins s σ H Q I h
  refine thn (ha pins s σ H _ I h) fun v s1 ⟨x, H1, I1, r1, q1⟩ => ?_
  exact Constant_none (is_none_gen ⟨.bl _, H1, I1, by rw [r1.none_iff]; rfl, q1⟩)
def tB (t : TE) : TT := fun σ H Q => t σ H fun x H1 => ∃ c, x = .bl c ∧ Q c H1
theorem pt_cmp {op : CmpOp} {t : TE} (h : PC X op a b t) (h1 : behindInMarks op b = false := by first | exact nobehind _ (by decide) (by decide) | rfl) : PT X (.Compare a [op] [b] pos) (tB t) := by
  intro pins s σ H Q I hw
  refine wpAny_isTrue_Compare1 (thn (h pins s σ H _ I hw) fun v s1 h1 => thn h1 fun u s2 h2 => thn h2 fun c s3 ⟨x, H1, I1, r1, q1⟩ => ?_) h1
  obtain ⟨d, rfl, q⟩ := q1
  cases r1
  exact wpAny_truthy_bool ⟨H1, I1, q⟩
theorem pt_val {e : Expr} {t : TE} (h : PE X e t) (he : ∀ whole, isTrue e X.env whole = (do let v ← whole; standAt e.pos; holding [v] (truthy v)) := by intro _; rfl) : PT X e (tB t) := by
  intro pins s σ H Q I hw
  refine isTrue_plain (thn (h pins s σ H _ I hw) fun v s1 ⟨x, H1, I1, r1, q1⟩ => ?_) (he _)
  obtain ⟨d, rfl, q⟩ := q1
  cases r1
  exact wpAny_truthy_bool ⟨H1, I1, q⟩
variable {tA tB' : TT} {rest : List Expr}
def tAnd (t u : TT) : TT := fun σ H Q => t σ H fun c H1 => if c = true then u σ H1 Q else Q false H1
def tOr (t u : TT) : TT := fun σ H Q => t σ H fun c H1 => if c = true then Q true H1 else u σ H1 Q
def tNot (t : TT) : TT := fun σ H Q => t σ H fun c H1 => Q (!c) H1
theorem pw_and1 (ha : PT X a tA) : PW X (.BoolOp .And [a] pos) tA := by
  intro wh pins s σ H Q I h
  refine isTrue_and (thn (ha pins s σ H Q I h) fun c s1 e => ?_)
  cases c with
  | true => exact isTrue_and_nil e
  | false => exact e
theorem pw_or1 (ha : PT X a tA) : PW X (.BoolOp .Or [a] pos) tA := by
  intro wh pins s σ H Q I h
  refine isTrue_or (thn (ha pins s σ H Q I h) fun c s1 e => ?_)
  cases c with
  | false => exact isTrue_or_nil e
  | true => exact e
theorem pw_and (ha : PT X a tA) (hb : PW X (.BoolOp .And (b :: rest) pos) tB') : PW X (.BoolOp .And (a :: b :: rest) pos) (tAnd tA tB') := by
  intro wh pins s σ H Q I h
  refine isTrue_and (thn (ha pins s σ H _ I h) fun c s1 ⟨H1, I1, q1⟩ => ?_)
  cases c with
  | true => exact hb wh pins s1 σ H1 Q I1 q1
  | false => exact ⟨H1, I1, q1⟩
theorem pw_or (ha : PT X a tA) (hb : PW X (.BoolOp .Or (b :: rest) pos) tB') : PW X (.BoolOp .Or (a :: b :: rest) pos) (tOr tA tB') := by
  intro wh pins s σ H Q I h
  refine isTrue_or (thn (ha pins s σ H _ I h) fun c s1 ⟨H1, I1, q1⟩ => ?_)
  cases c with
  | true => exact ⟨H1, I1, q1⟩
  | false => exact hb wh pins s1 σ H1 Q I1 q1
theorem pt_not (ha : PT X a tA) : PT X (.UnaryOp .Not a pos) (tNot tA) := by
  intro pins s σ H Q I h
  exact isTrue_not (ha pins s σ H (fun c H1 => Q (!c) H1) I h)
def tAndV (ta tb : TE) : TE := fun σ H Q => ta σ H fun x H1 => ∃ c, x = .bl c ∧ if c = true then tb σ H1 Q else Q (.bl false) H1
def tOrV (ta tb : TE) : TE := fun σ H Q => ta σ H fun x H1 => ∃ c, x = .bl c ∧ if c = true then Q (.bl true) H1 else tb σ H1 Q
def tNotV (ta : TE) : TE := fun σ H Q => ta σ H fun x H1 => ∃ c, x = .bl c ∧ Q (.bl (!c)) H1
theorem pe_one {op} {t : TE} (h : PE X a t) : PE X (.BoolOp op [a] pos) t := fun pins s σ H Q I hw => BoolOp_one (h pins s σ H Q I hw)
theorem pe_and (ha : PE X a ta) (hb : PE X (.BoolOp .And (b :: rest) pos) tb) : PE X (.BoolOp .And (a :: b :: rest) pos) (tAndV ta tb) := by
  intro pins s σ H Q I h
  refine BoolOp_and (thn (ha pins s σ H _ I h) fun v s1 ⟨x, H1, I1, r1, q1⟩ => ?_)
  obtain ⟨c, rfl, q1⟩ := q1
  cases r1
  refine wpAny_truthy_bool ?_
  cases c with
  | true => exact hb pins s1 σ H1 Q I1 q1
  | false => exact ⟨.bl false, H1, I1, rfl, q1⟩
theorem pe_not (ha : PE X a ta) : PE X (.UnaryOp .Not a pos) (tNotV ta) := by
  intro pins s σ H Q I h
  refine UnaryOp_ (thn (ha pins s σ H _ I h) fun v s1 ⟨x, H1, I1, r1, q1⟩ => ?_)
  obtain ⟨c, rfl, q1⟩ := q1
  cases r1
  exact not_of (wpAny_truthy_bool ⟨.bl (!c), H1, I1, rfl, q1⟩)
def tIf (t : TT) (ta tb : TE) : TE := fun σ H Q => t σ H fun c H1 => if c = true then ta σ H1 Q else tb σ H1 Q
end
end L2
namespace L2
open PySem PySem.Spec PyProof.Rows
def SqL (K : PySem.W.Frag) (H : Hp) (a : Addr) (xs : List V) : Prop :=
  Rd H a (.lst xs) ∨
    ∃ (o : Obj) (its : Array Value) (n : Nat), K.lookup a = some o ∧ o.cls = .type "list" ∧ o.dict = none ∧ o.data = .seq its n ∧ its.size ≤ sizeLine ∧ Vals xs its.toList
def SqT (K : PySem.W.Frag) (H : Hp) (a : Addr) (xs : List V) : Prop :=
  Rd H a (.tup xs) ∨
    ∃ (o : Obj) (its : Array Value) (n : Nat), K.lookup a = some o ∧ o.cls = .type "tuple" ∧ o.data = .seq its n ∧ its.size ≤ sizeLine ∧ Vals xs its.toList
def absV : Value → Option V
  | .none => some .non
  | .bool b => some (.bl b)
  | .int i _ => some (.int i)
  | .str x _ => some (.str x)
  | .bytes b _ => some (.byt b)
  | .float b _ => some (.flt b)
  | .ref a => some (.ref a)
  | .type n => some (.ty n)
  | _ => none
theorem RelV.abs {x : V} {u : Value} (r : RelV x u) : absV u = some x := by
  cases x with
  | non => cases r; rfl
  | bl _ => cases r; rfl
  | int _ => obtain ⟨t, rfl⟩ := r; rfl
  | str _ => obtain ⟨t, rfl⟩ := r; rfl
  | byt _ => obtain ⟨t, rfl⟩ := r; rfl
  | flt _ => obtain ⟨t, rfl⟩ := r; rfl
  | ref _ => cases r; rfl
  | ty _ => cases r; rfl
theorem RelV.inj {x y : V} {u : Value} (r : RelV x u) (q : RelV y u) : x = y := Option.some.inj (r.abs.symm.trans q.abs)
theorem Vals.inj : ∀ {xs ys : List V} {us : List Value}, Vals xs us → Vals ys us → xs = ys
  | _, _, _, .nil, .nil => rfl
  | _, _, _, .cons r t, .cons r' t' => by rw [r.inj r', Vals.inj t t']
section
variable {X : Cx} {pins : List (Addr × Obj)} {σ : St} {H : Hp} {s : Shared} {a : Addr} {xs ys : List V}
theorem SqL.of {K : PySem.W.Frag} (h : H a = some (.lst xs)) : SqL K H a xs := .inl (.inl h)
theorem SqT.of {K : PySem.W.Frag} (h : H a = some (.tup xs)) : SqT K H a xs := .inl (.inl h)
theorem Inv.list (I : Inv X pins σ H s) (h : SqL X.K H a xs) : ∃ its : List Value, Vals xs its ∧ PlainL s.heap a its.toArray ∧ xs.length ≤ sizeLine := by
  rcases h with h | ⟨o, its, n, hk, hc, hd, hs, hz, r⟩
  · obtain ⟨z, its, n, r, e⟩ := h.ok I.hok
    exact ⟨its, r, ⟨_, n, e, rfl, rfl, rfl⟩, z⟩
  · refine ⟨its.toList, r, ⟨o, n, I.kIn a o hk, hc, hd, by simpa using hs⟩, ?_⟩
    have e := r.length
    simp only [Array.length_toList] at e
    omega
theorem Inv.tuple (I : Inv X pins σ H s) (h : SqT X.K H a xs) : ∃ its : List Value, Vals xs its ∧ IsTup s.heap a its.toArray ∧ xs.length ≤ sizeLine := by
  rcases h with h | ⟨o, its, n, hk, hc, hs, hz, r⟩
  · obtain ⟨z, its, r, p⟩ := h.ok I.hok
    exact ⟨its, r, p, z⟩
  · refine ⟨its.toList, r, ⟨o, I.kIn a o hk, hc, n, by simpa using hs⟩, ?_⟩
    have e := r.length
    simp only [Array.length_toList] at e
    omega
theorem Inv.list_inj (I : Inv X pins σ H s) (h : SqL X.K H a xs) (h' : SqL X.K H a ys) : xs = ys := by
  obtain ⟨its, r, ⟨o, n, e, _, _, d⟩, _⟩ := I.list h
  obtain ⟨its', r', ⟨o', n', e', _, _, d'⟩, _⟩ := I.list h'
  rw [e] at e'; cases e'
  rw [d] at d'
  injection d' with d1 _
  have : its = its' := by simpa using congrArg Array.toList d1
  subst this
  exact r.inj r'
end
abbrev Cx.wish (X : Cx) (E : Value → Shared → Prop) : Cx := { X with xe := E }
abbrev Cx.nox (X : Cx) : Cx := X.wish fun _ _ => False
theorem Cx.Ok.wish {X : Cx} (ok : X.Ok) (E : Value → Shared → Prop) : (X.wish E).Ok :=
  ⟨ok.mod, ok.kind, ok.glob, ok.blt, ok.above, ok.inj, ok.has, ok.cab, ok.hd, ok.frames, ok.stk, ok.exf, ok.bs, ok.bsz, ok.noex, ok.exfs, ok.funs, ok.frf⟩
theorem Cx.Ok.unwish {X : Cx} {E : Value → Shared → Prop} (ok : (X.wish E).Ok) : X.Ok :=
  ⟨ok.mod, ok.kind, ok.glob, ok.blt, ok.above, ok.inj, ok.has, ok.cab, ok.hd, ok.frames, ok.stk, ok.exf, ok.bs, ok.bsz, ok.noex, ok.exfs, ok.funs, ok.frf⟩
section
variable {X : Cx} {pins : List (Addr × Obj)} {σ : St} {H : Hp} {s : Shared} {E : Value → Shared → Prop}
theorem Inv.wish (I : Inv X pins σ H s) (E : Value → Shared → Prop) : Inv (X.wish E) pins σ H s := ⟨I.ok.wish E, I.os, I.bare, I.base, I.loc, I.cell, I.free, I.freeC, I.pin, I.hok, I.len⟩
theorem Inv.unwish (I : Inv (X.wish E) pins σ H s) : Inv X pins σ H s := ⟨I.ok.unwish, I.os, I.bare, I.base, I.loc, I.cell, I.free, I.freeC, I.pin, I.hok, I.len⟩
theorem SP.unwish {D : Ends} {f : Flow} {s' : Shared} (h : SP (X.wish E) pins D f s') : SP X pins D f s' := by
  cases f with
  | next => obtain ⟨σ', H', I, q⟩ := h; exact ⟨σ', H', I.unwish, q⟩
  | brk => obtain ⟨σ', H', I, q⟩ := h; exact ⟨σ', H', I.unwish, q⟩
  | cont => obtain ⟨σ', H', I, q⟩ := h; exact ⟨σ', H', I.unwish, q⟩
  | ret u => obtain ⟨v, σ', H', I, r, q⟩ := h; exact ⟨v, σ', H', I.unwish, r, q⟩
theorem PSs.nox {st : List Stmt} {t : TS} (h : PSs X.nox st t) : PSs X st t := fun pins s σ H D I hw =>
  wpAny_mono (h pins s σ H D (I.wish _) hw) (fun _ _ q => q.unwish) fun _ _ z => False.elim z
end
section
variable {X : Cx} {st : Stmt} {rest : List Stmt} {t u : TS} {e : Expr} {te : TE} {pos : Pos}
def tNext : TS := fun D σ H => D.nx σ H
def tSeq (t u : TS) : TS := fun D σ H => t { D with nx := u D } σ H
theorem pss_nil : PSs X [] tNext := fun _ _ σ H _ I h => wpAny_execs_nil ⟨σ, H, I, h⟩
theorem pss_cons (h1 : PS X st t) (h2 : PSs X rest u) : PSs X (st :: rest) (tSeq t u) := by
  intro pins s σ H D I h
  refine wpAny_execs_cons (thn (h1 pins s σ H { D with nx := u D } I h) fun f s1 q => ?_)
  cases f with
  | next =>
    obtain ⟨σ', H', I', q⟩ := q
    exact h2 pins s1 σ' H' D I' q
  | ret v => exact q
  | brk => exact q
  | cont => exact q
theorem pss_one (h1 : PS X st t) : PSs X [st] t := by
  intro pins s σ H D I h
  refine wpAny_execs_cons (thn (h1 pins s σ H D I h) fun f s1 q => ?_)
  cases f with
  | next => exact wpAny_execs_nil q
  | ret v => exact q
  | brk => exact q
  | cont => exact q
def tBreak : TS := fun D σ H => D.bk σ H
def tCont : TS := fun D σ H => D.ct σ H
theorem Inv.quiet {pins : List (Addr × Obj)} {σ : St} {H : Hp} {s : Shared} (I : Inv X pins σ H s) : interactive X.env = false := by simp [interactive, I.ok.kind]
def tDrop (te : TE) : TS := fun D σ H => te σ H fun _ H1 => D.nx σ H1
theorem ps_expr (he : PE X e te) (hs : swapsWith e none pos.line X.env = pure false := by rfl) : PS X (.Expr e pos) (tDrop te) := by
  intro pins s σ H D I h
  exact wpAny_Expr_any (thn (he pins s σ H _ I h) fun v s1 ⟨x, H1, I1, r1, q1⟩ => ⟨σ, H1, I1, q1⟩) I.quiet hs
def tRet (te : TE) : TS := fun D σ H => te σ H D.rt
theorem ps_ret (he : PE X e te) : PS X (.Return (some e) pos) (tRet te) := by
  intro pins s σ H D I h
  exact wpAny_Return_some (thn (he pins s σ H _ I h) fun v s1 ⟨x, H1, I1, r1, q1⟩ => ⟨x, σ, H1, I1, r1, q1⟩)
def tRetN : TS := fun D _ H => D.rt .non H
def tIfS (c : TT) (t u : TS) : TS := fun D σ H => c σ H fun b H1 => if b = true then t D σ H1 else u D σ H1
theorem ps_if {c : Expr} {a b : List Stmt} {tc : TT} (hc : PT X c tc) (ha : PSs X a t) (hb : PSs X b u) : PS X (.If c a b pos) (tIfS tc t u) := by
  intro pins s σ H D I h
  refine wpAny_If (thn (hc pins s σ H _ I h) fun d s1 ⟨H1, I1, q1⟩ => ?_)
  cases d with
  | true => exact ha pins s1 σ H1 D I1 q1
  | false => exact hb pins s1 σ H1 D I1 q1
def tNever : TS := fun _ _ _ => False
theorem ps_never : PS X st tNever := fun _ _ _ _ _ _ h => h.elim
end
abbrev TG := V → St → Hp → (St → Hp → Prop) → Prop
abbrev TGs := List V → St → Hp → (St → Hp → Prop) → Prop
def PG (X : Cx) (target : Expr) (t : TG) : Prop :=
  ∀ (pins : List (Addr × Obj)) (s : Shared) (σ : St) (H : Hp) (v : V) (u : Value) (Q : St → Hp → Prop), Inv X pins σ H s → RelV v u → t v σ H Q →
    wpAny (model X.prog X.w) X.A (assign target X.env u) (fun _ s' => ∃ σ' H', Inv X pins σ' H' s' ∧ Q σ' H') X.xe s
def PGs (X : Cx) (ts : List Expr) (t : TGs) : Prop :=
  ∀ (pins : List (Addr × Obj)) (s : Shared) (σ : St) (H : Hp) (vs : List V) (us : List Value) (Q : St → Hp → Prop), Inv X pins σ H s → Vals vs us → t vs σ H Q →
    wpAny (model X.prog X.w) X.A (assignInOrder ((assignEach ts X.env).map (·.2)) us) (fun _ s' => ∃ σ' H', Inv X pins σ' H' s' ∧ Q σ' H') X.xe s
abbrev TSet := V → V → V → Hp → (Hp → Prop) → Prop
def PSet (X : Cx) (t : TSet) : Prop :=
  ∀ (pins : List (Addr × Obj)) (s : Shared) (σ : St) (H : Hp) (o i v : V) (ov iv u : Value) (Q : Hp → Prop), Inv X pins σ H s → RelV o ov → RelV i iv → RelV v u → t o i v H Q →
    wpAny (model X.prog X.w) X.A (setItem ov iv u) (fun _ s' => ∃ H', Inv X pins σ H' s' ∧ Q H') X.xe s
abbrev TIp := V → V → Hp → VK → Prop
def PIp (X : Cx) (op : Operator) (t : TIp) : Prop :=
  ∀ (pins : List (Addr × Obj)) (s : Shared) (σ : St) (H : Hp) (x y : V) (v u : Value) (Q : VK), Inv X pins σ H s → RelV x v → RelV y u → t x y H Q →
    wpAny (model X.prog X.w) X.A (inplaceOp op v u) (EP X pins σ Q) X.xe s
section
variable {X : Cx} {pos : Pos}
def gName (i : Nat) : TG := fun v σ H Q => Q (σ.set i (some v)) H
theorem pg_name {i : Nat} {x : Str} (hN : X.N.Nodup) (hi : X.N[i]? = some x) (hx : Loc X.env.scope x) (hf : X.fn x = true ∨ X.env.scope.names.lookup x = some .local := by first | exact .inl rfl | exact .inr rfl | assumption) : PG X (.Name x pos) (gName i) := by
  intro pins s σ H v u Q I r h
  exact wpAny_assign_Name (store_ok I hN hi hx r (fun s' I' => ⟨_, H, I', h⟩) hf)
def gNil : TGs := fun vs σ H Q => vs = [] ∧ Q σ H
def gCons (t : TG) (u : TGs) : TGs := fun vs σ H Q => ∃ v r, vs = v :: r ∧ t v σ H fun σ' H' => u r σ' H' Q
def gTup (K : PySem.W.Frag) (n : Nat) (t : TGs) : TG := fun v σ H Q => ∃ a xs, v = .ref a ∧ SqT K H a xs ∧ xs.length = n ∧ t xs σ H Q
def gSub (to ti : TE) (t : TSet) : TG := fun v σ H Q => to σ H fun o H1 => ti σ H1 fun i H2 => t o i v H2 fun H3 => Q σ H3
def tAsg (te : TE) (g : TG) : TS := fun D σ H => te σ H fun x H1 => g x σ H1 D.nx
theorem ps_set {i : Nat} {x : Str} {e : Expr} {te : TE} {pos' : Pos} (hN : X.N.Nodup) (hi : X.N[i]? = some x) (hx : Loc X.env.scope x) (he : PE X e te) (hs : swapsWith e (some (.Name x pos')) pos.line X.env = pure false := by rfl) (hf : X.fn x = true ∨ X.env.scope.names.lookup x = some .local := by first | exact .inl rfl | exact .inr rfl | assumption) :
    PS X (.Assign [.Name x pos'] e pos) (tAsg te (gName i)) := by
  intro pins s σ H D I h
  refine wpAny_Assign_Name (thn (he pins s σ H _ I h) fun v s1 ⟨y, H1, I1, r1, q1⟩ => ?_) hs
  exact store_ok I1 hN hi hx r1 (fun s2 I2 => ⟨_, H1, I2, q1⟩) hf
def tPar (i j : Nat) (ta : TA) : TS := fun D σ H => ta σ H fun vs H1 => ∃ v w, vs = [v, w] ∧ D.nx ((σ.set i (some v)).set j (some w)) H1
def tAug (i : Nat) (te : TE) (ti : TIp) : TS := fun D σ H => ∃ x, σ[i]? = some (some x) ∧ te σ H fun y H1 => ti x y H1 fun z H2 => D.nx (σ.set i (some z)) H2
def tAugS (to ti te : TE) (tget : V → V → Hp → VK → Prop) (tip : TIp) (tset : TSet) : TS := fun D σ H => to σ H fun o H1 => ti σ H1 fun i H2 => tget o i H2 fun x H3 => te σ H3 fun y H4 => tip x y H4 fun z H5 => tset o i z H5 fun H6 => D.nx σ H6
def PGet (X : Cx) (t : V → V → Hp → VK → Prop) : Prop :=
  ∀ (pins : List (Addr × Obj)) (s : Shared) (σ : St) (H : Hp) (o i : V) (ov iv : Value) (Q : VK), Inv X pins σ H s → RelV o ov → RelV i iv → t o i H Q →
    wpAny (model X.prog X.w) X.A (getItem ov iv) (EP X pins σ Q) X.xe s
def ipI (f : Int → Int → Int) : TIp := fun x y H Q => ∃ i j, x = .int i ∧ y = .int j ∧ Q (.int (f i j)) H
end
section
variable {X : Cx} {pos : Pos}
def tWhile (c : TT) (tb : TS) : TS := fun D σ H => ∃ W : Nat → St → Hp → Prop, (∃ m, W m σ H) ∧ ∀ m σ H, W m σ H →
  c σ H fun b H1 => if b = true then ∃ N : St → Hp → Prop, (∀ σ' H', N σ' H' → ∃ m', m' < m ∧ W m' σ' H') ∧ tb { D with nx := N, ct := N, bk := D.nx } σ H1 else D.nx σ H1
end
structure It where
  go : Nat → Hp → Prop
  yld : Nat → Hp → V → Hp → Prop
  stop : Nat → Hp → Prop
def FpOk (X : Cx) (pins : List (Addr × Obj)) (H : Hp) (b : Addr) : Prop :=
  H b = none ∧ b ≠ X.env.locals ∧ b ∉ X.fs ∧ (b ∈ X.ex ∨ X.s₀.heap.objs.size ≤ b) ∧ (∀ x c, X.env.cells.lookup x = some c → c ≠ b) ∧ ∀ p ∈ X.pn ++ pins, p.1 ≠ b
theorem Inv.fpOk {X : Cx} {pins : List (Addr × Obj)} {σ : St} {H H' : Hp} {s : Shared} {b : Addr} (I : Inv X pins σ H s) (hb : s.heap.objs.size ≤ b) (hn : H' b = none) : FpOk X pins H' b := by
  refine ⟨hn, Nat.ne_of_gt (Nat.lt_of_lt_of_le I.lt hb), I.nofs hb, .inr (Nat.le_trans I.sz hb), fun x c e z => ?_, fun p hp z => ?_⟩
  · obtain ⟨v, q⟩ := I.cell x c e
    exact absurd (Nat.lt_of_lt_of_le q.lt (by rw [z]; exact hb)) (Nat.lt_irrefl _)
  · exact absurd (Nat.lt_of_lt_of_le (Heap.lt_size (I.pin p hp).1) (by rw [z]; exact hb)) (Nat.lt_irrefl _)
structure Turn (P : Program) (w : World) (K : PySem.W.Frag) (tg : Expr) (J : It) (fp : List Addr) (it : Addr) (tn : Nat → Heap → Prop) : Prop where
  mem : it ∈ fp
  obj : ∀ i h, tn i h → ∀ b ∈ fp, ∃ o, h.get? b = some o ∧ ∀ v, o.data ≠ .cell v
  keep : ∀ i h h', tn i h → (∀ b ∈ fp, ∀ o, h.get? b = some o → h'.get? b = some o) → tn i h'
  item : ∀ (X : Cx), X.prog = P → X.w = w → X.K = K → X.calm = true → ∀ (i : Nat) (pins : List (Addr × Obj)) (s : Shared) (σ : St) (H : Hp) (E : Value → Shared → Prop), Inv X pins σ H s → (∀ b ∈ fp, FpOk X pins H b) → tn i s.heap → J.go i H →
    wpAny (model P w) X.A (pyNext (.ref it)) (fun r s1 => ∃ u, r = some u ∧
      wpAny (model P w) X.A (letOwnedTupleGo tg (.ref it) u) (fun _ s2 => ∃ x H', Inv X pins σ H' s2 ∧ RelV x u ∧ J.yld i H x H' ∧ tn (i + 1) s2.heap ∧ ∀ b ∈ fp, H' b = none) E s1) E s
  done : ∀ (X : Cx), X.prog = P → X.w = w → X.K = K → X.calm = true → ∀ (i : Nat) (pins : List (Addr × Obj)) (s : Shared) (σ : St) (H : Hp) (E : Value → Shared → Prop), Inv X pins σ H s → (∀ b ∈ fp, FpOk X pins H b) → tn i s.heap → J.stop i H →
    wpAny (model P w) X.A (pyNext (.ref it)) (fun r s1 => r = none ∧ Inv X pins σ H s1) E s
  self : ∀ (A : Around) (i : Nat) (s : Shared) (Q : Value → Shared → Prop) (E : Value → Shared → Prop), tn i s.heap → Q (.ref it) s → wpAny (model P w) A (pyIter (.ref it)) Q E s
abbrev TI := St → Hp → (It → Hp → Prop) → Prop
def PIE (X : Cx) (pins : List (Addr × Obj)) (σ : St) (tg : Expr) (R : It → Hp → Prop) (itv : Value) (s2 : Shared) : Prop :=
  ∃ (it : Addr) (fp : List Addr) (tn : Nat → Heap → Prop) (J : It) (H' : Hp), itv = .ref it ∧ Inv X pins σ H' s2 ∧ Turn X.prog X.w X.K tg J fp it tn ∧ tn 0 s2.heap ∧ (∀ b ∈ fp, FpOk X pins H' b) ∧ R J H'
def PI (X : Cx) (tg iter : Expr) (wi : TI) : Prop :=
  ∀ (pins : List (Addr × Obj)) (s : Shared) (σ : St) (H : Hp) (R : It → Hp → Prop), Inv X pins σ H s → wi σ H R →
    wpAny (model X.prog X.w) X.A (eval iter X.env) (fun v s1 => wpAny (model X.prog X.w) X.A (pyIter v) (PIE X pins σ tg R) X.xe s1) X.xe s
theorem go_of {M : Model} {A : Around} {E : Value → Shared → Prop} {s : Shared} {tg : Expr} {it : Addr} {u : Value} {o : Obj} {n : String} {vs : Array Value} {Q : Unit → Shared → Prop} (ho : s.heap.get? it = some o) (hc : o.cls = .type n) (hd : o.data = .fields vs)
    (hn : ["enumerate", "zip", "dict_itemiterator", "dict_reverseitemiterator", "odict_iterator", "itertools.zip_longest", "itertools.pairwise"].contains n = false) (hQ : Q () s) : wpAny M A (letOwnedTupleGo tg (.ref it) u) Q E s := by
  unfold letOwnedTupleGo
  cases tg <;> first
    | exact wpAny_pure hQ
    | (cases u <;> first
        | exact wpAny_pure hQ
        | (refine wpAny_bind (wpAny_load ho ?_)
           rw [hc, hd]
           show wpAny M A (if (["enumerate", "zip", "dict_itemiterator", "dict_reverseitemiterator", "odict_iterator", "itertools.zip_longest", "itertools.pairwise"].contains n && vs[0]? == some (rawInt _)) = true then _ else _) Q E s
           rw [if_neg (by intro h; rw [hn, Bool.false_and] at h; cases h)]
           exact wpAny_pure hQ))
def Itl (K : PySem.W.Frag) (a : Addr) : It :=
  ⟨fun i H => ∃ xs x, SqL K H a xs ∧ xs[i]? = some x, fun i H x H' => H' = H ∧ ∀ xs, SqL K H a xs → xs[i]? = some x, fun i H => ∃ xs, SqL K H a xs ∧ xs.length ≤ i⟩
def Itt (K : PySem.W.Frag) (a : Addr) : It :=
  ⟨fun i H => ∃ xs x, SqT K H a xs ∧ xs[i]? = some x, fun i H x H' => H' = H ∧ ∀ xs, SqT K H a xs → xs[i]? = some x, fun i H => ∃ xs, SqT K H a xs ∧ xs.length ≤ i⟩
def Itr (lo : Int) (n : Nat) : It := ⟨fun i _ => i < n, fun i H x H' => H' = H ∧ x = .int (lo + i), fun i _ => n ≤ i⟩
theorem turn_list {P : Program} {w : World} {K : PySem.W.Frag} {tg : Expr} (a it : Addr) : Turn P w K tg (Itl K a) [it] it (fun i h => h.IsListIter it a i) where
  mem := by simp
  obj := fun i h st b hb => by
    have e : b = it := by simpa using hb
    subst e
    obtain ⟨o, e, c, d⟩ := st
    exact ⟨o, e, fun v z => by rw [d] at z; cases z⟩
  keep := fun i h h' st k => st.at fun o e => k it (by simp) o e
  item := by
    intro X hP hw hK hc i pins s σ H E I hf st hg
    subst hP hw hK
    obtain ⟨xs, x, hq, hx⟩ := hg
    obtain ⟨its, rv, p, hz⟩ := I.list hq
    obtain ⟨u, hu, ru⟩ := rv.get hx
    obtain ⟨f0, f1, f2, f3, f4, f5⟩ := hf it (by simp)
    refine wpAny_pyNext_list_item st p.isList (x := u) (by simpa using hu) fun h' st' sb => ?_
    have I1 : Inv X pins σ H { s with heap := h' } := I.turned (t' := s.toks) (fun b o hb e => (sb.2 b hb).trans e) f0 f1 f3 f4 f5
    obtain ⟨o, e, c, d⟩ := id st'
    exact ⟨u, rfl, go_of (s := { s with heap := h' }) e c d (by decide) ⟨x, H, I1, ru, ⟨rfl, fun ys hy => by rw [I.list_inj hy hq]; exact hx⟩, st', fun b hb => (hf b hb).1⟩⟩
  done := by
    intro X hP hw hK hc i pins s σ H E I hf st hg
    subst hP hw hK
    obtain ⟨xs, hq, hx⟩ := hg
    obtain ⟨its, rv, p, hz⟩ := I.list hq
    obtain ⟨f0, f1, f2, f3, f4, f5⟩ := hf it (by simp)
    have hl := rv.length
    exact wpAny_pyNext_list_end (I.ok.hd hc) st p.isList (by simp; omega) fun h' eb => ⟨rfl, I.turned (t' := s.toks) (fun b o hb e => eb b o hb e) f0 f1 f3 f4 f5⟩
  self := fun _ _ _ _ _ st h => wpAny_pyIter_listiter st h
theorem turn_range {P : Program} {w : World} {K : PySem.W.Frag} {tg : Expr} (it : Addr) (lo : Int) (n : Nat) : Turn P w K tg (Itr lo n) [it] it (fun i h => IsRangeIter h it (lo + (i : Nat) * 1) ((n : Int) - (i : Nat)) 1) where
  mem := by simp
  obj := fun i h st b hb => by
    have e : b = it := by simpa using hb
    subst e
    exact ⟨_, st, fun v z => by
      have z' : Data.fields _ = Data.cell v := z
      cases z'⟩
  keep := fun i h h' st k => k it (by simp) _ st
  item := by
    intro X hP hw hK hc i pins s σ H E I hf st hg
    subst hP hw hK
    obtain ⟨f0, f1, f2, f3, f4, f5⟩ := hf it (by simp)
    have W := Walks.range (prog := X.prog) (w := X.w) (I.ok.hd hc) it lo 1 n
    refine W.item i s _ _ hg st fun v h' tk hv st' kk => ?_
    obtain ⟨t, rfl⟩ := hv
    have I1 : Inv X pins σ H { s with heap := h', toks := tk } := I.turned (fun b o hb e => kk b o (by simpa using hb) e) f0 f1 f3 f4 f5
    refine ⟨_, rfl, go_of (s := { s with heap := h', toks := tk }) (n := "range_iterator") st' rfl rfl (by decide) ⟨.int (lo + i), H, I1, ⟨t, ?_⟩, ⟨rfl, rfl⟩, st', fun b hb => (hf b hb).1⟩⟩
    rw [Int.mul_one]
  done := by
    intro X hP hw hK hc i pins s σ H E I hf st hg
    subst hP hw hK
    obtain ⟨f0, f1, f2, f3, f4, f5⟩ := hf it (by simp)
    exact wpAny_pyNext_range_end (I.ok.hd hc) st (by have : n ≤ i := hg; omega) fun h' eb => ⟨rfl, I.turned (t' := s.toks) (fun b o hb e => eb b o hb e) f0 f1 f3 f4 f5⟩
  self := fun _ _ _ _ _ st h => wpAny_pyIter_rangeiter st h
end L2
namespace L2
open PySem PySem.Spec PyProof.Rows
section
variable {X : Cx} {tg : Expr}
def iList (K : PySem.W.Frag) (tl : TE) : TI := fun σ H R => tl σ H fun x H1 => ∃ a, x = .ref a ∧ (∃ xs, SqL K H1 a xs) ∧ R (Itl K a) H1
def iTup (K : PySem.W.Frag) (tl : TE) : TI := fun σ H R => tl σ H fun x H1 => ∃ a, x = .ref a ∧ (∃ xs, SqT K H1 a xs) ∧ R (Itt K a) H1
theorem pi_list {l : Expr} {tl : TE} (hl : PE X l tl) : PI X tg l (iList X.K tl) := by
  intro pins s σ H R I h
  refine thn (hl pins s σ H _ I h) fun v s1 ⟨x, H1, I1, r1, q1⟩ => ?_
  obtain ⟨a, e, ⟨xs, hq⟩, q⟩ := q1
  subst e
  cases r1
  obtain ⟨its, rv, p, hz⟩ := I1.list hq
  refine wpAny_pyIter_list p.isList ?_
  refine ⟨s1.heap.objs.size, [s1.heap.objs.size], _, _, H1, rfl, I1.kept (t' := s1.toks) fun b o e => Heap.get?_push_of_some _ e, turn_list a _, ⟨_, Heap.get?_push_size _ rfl, rfl, rfl⟩, fun b hb => ?_, q⟩
  have e : b = s1.heap.objs.size := by simpa using hb
  subst e
  exact I1.fpOk (Nat.le_refl _) (I1.hok.fresh (Nat.le_refl _))
theorem range_it {pins : List (Addr × Obj)} {σ : St} {H : Hp} {s : Shared} {R : It → Hp → Prop} {E : Value → Shared → Prop} {lo hi : Int} {t u v : Tok} {tk : Nat} (I : Inv X pins σ H s) (h1 : -(2 ^ 62) ≤ lo) (h2 : lo < 2 ^ 62) (h3 : -(2 ^ 62) ≤ hi) (h4 : hi < 2 ^ 62)
    (q : R (Itr lo (hi - lo).toNat) H) : wpAny (model X.prog X.w) X.A (pyIter (.ref s.heap.objs.size)) (PIE X pins σ tg R) E { s with heap := s.heap.push { cls := .type "range", data := .fields #[.int lo t, .int hi u, .int 1 v] }, toks := tk } := by
  refine wpAny_pyIter_range (IsRange.new ..) (small_one h1 h2 h3 h4) ?_
  have I1 : Inv X pins σ H { s with heap := s.heap.push { cls := .type "range", data := .fields #[.int lo t, .int hi u, .int 1 v] }, toks := tk } := I.kept fun b o e => Heap.get?_push_of_some _ e
  refine ⟨(s.heap.push { cls := .type "range", data := .fields #[.int lo t, .int hi u, .int 1 v] }).objs.size, [(s.heap.push { cls := .type "range", data := .fields #[.int lo t, .int hi u, .int 1 v] }).objs.size], _, _, H, rfl,
    I1.kept (t' := tk) fun b o e => Heap.get?_push_of_some _ e, turn_range _ lo (hi - lo).toNat, ?_, fun b hb => ?_, q⟩
  · have e1 : lo + ((0 : Nat) : Int) * 1 = lo := by simp
    have e2 : (((hi - lo).toNat : Nat) : Int) - ((0 : Nat) : Int) = Builtin.Range.rangeSize lo hi 1 := by rw [rangeSize_one]; split <;> omega
    show IsRangeIter _ _ (lo + ((0 : Nat) : Int) * 1) ((((hi - lo).toNat : Nat) : Int) - ((0 : Nat) : Int)) 1
    rw [e1, e2]
    exact Heap.get?_push_size _ rfl
  · have e : b = (s.heap.push { cls := .type "range", data := .fields #[.int lo t, .int hi u, .int 1 v] }).objs.size := by simpa using hb
    subst e
    exact I1.fpOk (Nat.le_refl _) (I1.hok.fresh (Nat.le_refl _))
def iRng1 (ta : TA) : TI := fun σ H R => ta σ H fun vs H1 => ∃ j : Int, vs = [.int j] ∧ -(2 ^ 62) ≤ j ∧ j < 2 ^ 62 ∧ R (Itr 0 j.toNat) H1
def iRng2 (ta : TA) : TI := fun σ H R => ta σ H fun vs H1 => ∃ i j : Int, vs = [.int i, .int j] ∧ (-(2 ^ 62) ≤ i ∧ i < 2 ^ 62 ∧ -(2 ^ 62) ≤ j ∧ j < 2 ^ 62) ∧ R (Itr i (j - i).toNat) H1
theorem pi_range1 {a : Expr} {ta : TA} {p pos : Pos} (hg : Gl X "range") (hm : X.mg "range" = none) (ha : PA X [a] ta) (hs : starEach [a] X.env = [(false, eval a X.env)] := by rfl) : PI X tg (.Call (.Name "range" p) [a] [] pos) (iRng1 ta) := by
  intro pins s σ H R I h
  refine Call_ (ld_blt I hg hm boot_range (PyProof.Rows.callWith_type1 (thn (ha pos pins s σ H _ I h) fun us s1 ⟨vs, H1, I1, r1, q1⟩ => ?_) hs rfl))
  obtain ⟨j, e, q1, q2, q⟩ := q1
  subst e
  cases r1 with
  | cons r rr =>
    cases rr
    obtain ⟨t, rfl⟩ := r
    exact call_range_1 (range_it I1 (by omega) (by omega) q1 q2 (by simpa using q))
theorem pi_range2 {a b : Expr} {ta : TA} {p pos : Pos} (hg : Gl X "range") (hm : X.mg "range" = none) (ha : PA X [a, b] ta) (hs : starEach [a, b] X.env = [(false, eval a X.env), (false, eval b X.env)] := by rfl) (hs2 : starEach [b] X.env = [(false, eval b X.env)] := by rfl) :
    PI X tg (.Call (.Name "range" p) [a, b] [] pos) (iRng2 ta) := by
  intro pins s σ H R I h
  refine Call_ (ld_blt I hg hm boot_range (PyProof.Rows.callWith_type1 (thn (ha pos pins s σ H _ I h) fun us s1 ⟨vs, H1, I1, r1, q1⟩ => ?_) (by rw [hs, hs2]) (by rw [hs2]; rfl)))
  obtain ⟨i, j, e, ⟨q1, q2, q3, q4⟩, q⟩ := q1
  subst e
  cases r1 with
  | cons r rr =>
    cases rr with
    | cons r' rr =>
      cases rr
      obtain ⟨t, rfl⟩ := r
      obtain ⟨t', rfl⟩ := r'
      exact call_range_2 (range_it I1 q1 q2 q3 q4 q)
def tFor (wi : TI) (g : TG) (tb : TS) : TS := fun D σ H => wi σ H fun J H1 => ∃ W : Nat → Nat → St → Hp → Prop, (∃ m, W 0 m σ H1) ∧ ∀ i m σ H, W i m σ H →
  (J.stop i H ∧ D.nx σ H) ∨ (J.go i H ∧ ∃ N : St → Hp → Prop, (∀ σ' H', N σ' H' → ∃ m', m' < m ∧ W (i + 1) m' σ' H') ∧ ∀ x H', J.yld i H x H' → g x σ H' fun σ2 H2 => tb { D with nx := N, ct := N, bk := D.nx } σ2 H2)
def pinsAt (fp : List Addr) (h : Heap) : List (Addr × Obj) := fp.filterMap fun b => (h.get? b).map fun o => (b, o)
theorem mem_pinsAt {fp : List Addr} {h : Heap} {b : Addr} {o : Obj} (hb : b ∈ fp) (e : h.get? b = some o) : (b, o) ∈ pinsAt fp h := List.mem_filterMap.mpr ⟨b, hb, by rw [e]; rfl⟩
theorem of_pinsAt {fp : List Addr} {h : Heap} {p : Addr × Obj} (hp : p ∈ pinsAt fp h) : p.1 ∈ fp ∧ h.get? p.1 = some p.2 := by
  obtain ⟨b, hb, e⟩ := List.mem_filterMap.mp hp
  cases q : h.get? b with
  | none => rw [q] at e; cases e
  | some o =>
    rw [q] at e
    have e' : (b, o) = p := Option.some.inj e
    subst e'
    exact ⟨hb, q⟩
theorem Inv.pinned {pins : List (Addr × Obj)} {σ : St} {H : Hp} {s : Shared} {fp : List Addr} (I : Inv X pins σ H s) (hf : ∀ b ∈ fp, FpOk X pins H b) (ho : ∀ b ∈ fp, ∃ o, s.heap.get? b = some o ∧ ∀ v, o.data ≠ .cell v) : Inv X (pins ++ pinsAt fp s.heap) σ H s :=
  I.pins_of fun p hp => (List.mem_append.mp hp).elim (fun z => I.pin p (List.mem_append_right _ z)) fun z => by
    obtain ⟨hb, e⟩ := of_pinsAt z
    obtain ⟨f0, f1, f2, _⟩ := hf p.1 hb
    obtain ⟨o, e', d⟩ := ho p.1 hb
    rw [e] at e'; cases e'
    exact ⟨e, f0, f1, f2, d⟩
theorem Inv.unpinned {pins pl : List (Addr × Obj)} {σ : St} {H : Hp} {s : Shared} (I : Inv X (pins ++ pl) σ H s) : Inv X pins σ H s := I.pins_of fun p hp => I.pin p (List.mem_append_right _ (List.mem_append_left _ hp))
theorem ps_for {iter : Expr} {body : List Stmt} {wi : TI} {g : TG} {tb : TS} {pos : Pos} (hp : PassesOwn (model X.prog X.w) X.A X.env X.xe) (hc : X.calm = true) (hi : PI X tg iter wi) (hg : PG X tg g) (hb : PSs X body tb)
    (hs : ∀ x, foldedSetIterable iter X.env x = pure x := by intro _; rfl) : PS X (.For tg iter body [] pos) (tFor wi g tb) := by
  intro pins s σ H D I h
  refine wpAny_For (thn (hi pins s σ H _ I h) fun v s1 h1 => thn h1 fun itv s2 h2 => ?_) hs
  obtain ⟨it, fp, tn, J, H2, e, I2, T, st2, f2, W, ⟨m0, w0⟩, turn⟩ := h2
  subst e
  have stat : ∀ {H' : Hp}, (∀ b ∈ fp, H' b = none) → ∀ b ∈ fp, FpOk X pins H' b := fun hn b hb => ⟨hn b hb, (f2 b hb).2⟩
  refine codeAny_forLoop_any (fun n s' => ∃ i σ' H', Inv X pins σ' H' s' ∧ tn i s'.heap ∧ (∀ b ∈ fp, H' b = none) ∧ W i n σ' H') ?_ m0 ⟨0, σ, H2, I2, st2, fun b hb => (f2 b hb).1, w0⟩
  rintro n s3 ⟨i, σ3, H3, I3, st3, fr3, w3⟩
  rcases turn i n σ3 H3 w3 with ⟨stop, qn⟩ | ⟨go, N, hN, step⟩
  · refine wpAny_passesOwn hp (thn (T.done X rfl rfl rfl hc i pins s3 σ3 H3 X.xe I3 (stat fr3) st3 stop) fun r s4 ⟨hr, I4⟩ => ?_)
    subst hr
    exact wpAny_execs_nil ⟨σ3, H3, I4, qn⟩
  · refine wpAny_passesOwn hp (thn (T.item X rfl rfl rfl hc i pins s3 σ3 H3 X.xe I3 (stat fr3) st3 go) fun r s4 ⟨u, hr, h4⟩ => ?_)
    subst hr
    refine wpAny_passesOwn hp (thn h4 fun _ s5 ⟨x, H5, I5, r5, y5, st5, fr5⟩ => ?_)
    have I5' := I5.pinned (stat fr5) (T.obj _ _ st5)
    refine wpAny_passesOwn hp (thn (hg _ s5 σ3 H5 x u _ I5' r5 (step x H5 y5)) fun _ s6 ⟨σ6, H6, I6, q6⟩ => ?_)
    refine wpAny_passesOwn hp (thn (hb _ s6 σ6 H6 _ I6 q6) fun f s7 q7 => ?_)
    have again : ∀ {σ7 : St} {H7 : Hp}, Inv X (pins ++ pinsAt fp s5.heap) σ7 H7 s7 → N σ7 H7 → ∃ m, m < n ∧ ∃ i σ' H', Inv X pins σ' H' s7 ∧ tn i s7.heap ∧ (∀ b ∈ fp, H' b = none) ∧ W i m σ' H' := fun {σ7 H7} I7 n7 => by
      obtain ⟨m', hm, w7⟩ := hN σ7 H7 n7
      refine ⟨m', hm, i + 1, σ7, H7, I7.unpinned, T.keep _ _ _ st5 fun b hb o e => (I7.pin (b, o) (List.mem_append_right _ (List.mem_append_right _ (mem_pinsAt hb e)))).1, fun b hb => ?_, w7⟩
      obtain ⟨o, e, d⟩ := T.obj _ _ st5 b hb
      exact (I7.pin (b, o) (List.mem_append_right _ (List.mem_append_right _ (mem_pinsAt hb e)))).2.1
    cases f with
    | next => obtain ⟨σ7, H7, I7, n7⟩ := q7; exact again I7 n7
    | cont => obtain ⟨σ7, H7, I7, n7⟩ := q7; exact again I7 n7
    | brk => obtain ⟨σ7, H7, I7, q7⟩ := q7; exact ⟨σ7, H7, I7.unpinned, q7⟩
    | ret v => obtain ⟨x7, σ7, H7, I7, r7, q7⟩ := q7; exact ⟨x7, σ7, H7, I7.unpinned, r7, q7⟩
end
theorem for_list {K : PySem.W.Frag} {a : Addr} {xs : List V} {g : TG} {tb : TS} {D : Ends} {σ : St} {H : Hp} (Pv : Nat → St → Hp → Prop) (h0 : Pv 0 σ H) (hl : ∀ i σ H, i ≤ xs.length → Pv i σ H → SqL K H a xs)
    (hs : ∀ i x σ H, xs[i]? = some x → Pv i σ H → g x σ H fun σ2 H2 => tb { D with nx := Pv (i + 1), ct := Pv (i + 1), bk := D.nx } σ2 H2) (hd : ∀ σ H, Pv xs.length σ H → D.nx σ H) :
    ∃ W : Nat → Nat → St → Hp → Prop, (∃ m, W 0 m σ H) ∧ ∀ i m σ H, W i m σ H →
      ((Itl K a).stop i H ∧ D.nx σ H) ∨ ((Itl K a).go i H ∧ ∃ N : St → Hp → Prop, (∀ σ' H', N σ' H' → ∃ m', m' < m ∧ W (i + 1) m' σ' H') ∧ ∀ x H', (Itl K a).yld i H x H' → g x σ H' fun σ2 H2 => tb { D with nx := N, ct := N, bk := D.nx } σ2 H2) := by
  refine ⟨fun i m σ H => m = xs.length - i ∧ i ≤ xs.length ∧ Pv i σ H, ⟨xs.length, by simp, Nat.zero_le _, h0⟩, ?_⟩
  rintro i m σ H ⟨rfl, hi, p⟩
  have q := hl i σ H hi p
  by_cases hlt : i < xs.length
  · refine .inr ⟨⟨xs, xs[i], q, by simp [hlt]⟩, Pv (i + 1), fun σ' H' p' => ⟨xs.length - (i + 1), by omega, rfl, hlt, p'⟩, fun x H' y => ?_⟩
    obtain ⟨e, y⟩ := y
    subst e
    exact hs i x σ _ (y xs q) p
  · have e : i = xs.length := by omega
    subst e
    exact .inl ⟨⟨xs, q, Nat.le_refl _⟩, hd σ H p⟩
theorem for_range {lo : Int} {n : Nat} {g : TG} {tb : TS} {D : Ends} {σ : St} {H : Hp} (Pv : Nat → St → Hp → Prop) (h0 : Pv 0 σ H)
    (hs : ∀ i σ H, i < n → Pv i σ H → g (.int (lo + i)) σ H fun σ2 H2 => tb { D with nx := Pv (i + 1), ct := Pv (i + 1), bk := D.nx } σ2 H2) (hd : ∀ σ H, Pv n σ H → D.nx σ H) :
    ∃ W : Nat → Nat → St → Hp → Prop, (∃ m, W 0 m σ H) ∧ ∀ i m σ H, W i m σ H →
      ((Itr lo n).stop i H ∧ D.nx σ H) ∨ ((Itr lo n).go i H ∧ ∃ N : St → Hp → Prop, (∀ σ' H', N σ' H' → ∃ m', m' < m ∧ W (i + 1) m' σ' H') ∧ ∀ x H', (Itr lo n).yld i H x H' → g x σ H' fun σ2 H2 => tb { D with nx := N, ct := N, bk := D.nx } σ2 H2) := by
  refine ⟨fun i m σ H => m = n - i ∧ i ≤ n ∧ Pv i σ H, ⟨n, by simp, Nat.zero_le _, h0⟩, ?_⟩
  rintro i m σ H ⟨rfl, hi, p⟩
  by_cases hlt : i < n
  · refine .inr ⟨hlt, Pv (i + 1), fun σ' H' p' => ⟨n - (i + 1), by omega, rfl, hlt, p'⟩, fun x H' y => ?_⟩
    obtain ⟨e, y⟩ := y
    subst e y
    exact hs i σ _ hlt p
  · have e : i = n := by omega
    subst e
    exact .inl ⟨Nat.le_refl _, hd σ H p⟩
end L2
namespace L2
open PySem PySem.Spec PyProof.Rows
abbrev R2 := V → V → Hp → VK → Prop
def OpR (X : Cx) (f : Value → Value → Sem Value) (r : R2) : Prop :=
  ∀ (pins : List (Addr × Obj)) (s : Shared) (σ : St) (H : Hp) (x y : V) (v u : Value) (Q : VK), Inv X pins σ H s → RelV x v → RelV y u → r x y H Q →
    wpAny (model X.prog X.w) X.A (f v u) (EP X pins σ Q) X.xe s
def UnR (X : Cx) (f : Value → Sem Value) (r : V → Hp → VK → Prop) : Prop :=
  ∀ (pins : List (Addr × Obj)) (s : Shared) (σ : St) (H : Hp) (x : V) (v : Value) (Q : VK), Inv X pins σ H s → RelV x v → r x H Q →
    wpAny (model X.prog X.w) X.A (f v) (EP X pins σ Q) X.xe s
def CallR (X : Cx) (f : Value) (r : List V → Hp → VK → Prop) : Prop :=
  ∀ (pins : List (Addr × Obj)) (s : Shared) (σ : St) (H : Hp) (xs : List V) (us : List Value) (Q : VK), Inv X pins σ H s → Vals xs us → r xs H Q →
    wpAny (model X.prog X.w) X.A (call f us) (EP X pins σ Q) X.xe s
def TruR (X : Cx) (r : V → Hp → (Bool → Hp → Prop) → Prop) : Prop :=
  ∀ (pins : List (Addr × Obj)) (s : Shared) (σ : St) (H : Hp) (x : V) (v : Value) (Q : Bool → Hp → Prop), Inv X pins σ H s → RelV x v → r x H Q →
    wpAny (model X.prog X.w) X.A (truthy v) (TP X pins σ Q) X.xe s
def tOp (r : R2) (ta tb : TE) : TE := fun σ H Q => ta σ H fun x H1 => tb σ H1 fun y H2 => r x y H2 Q
def tUn (r : V → Hp → VK → Prop) (ta : TE) : TE := fun σ H Q => ta σ H fun x H1 => r x H1 Q
def rI (C : Int → Int → Prop) (g : Int → Int → V) : R2 := fun x y H Q => ∃ i j, x = .int i ∧ y = .int j ∧ C i j ∧ Q (g i j) H
def rI0 (g : Int → Int → V) : R2 := fun x y H Q => ∃ i j, x = .int i ∧ y = .int j ∧ Q (g i j) H
def rU (g : Int → V) : V → Hp → VK → Prop := fun x H Q => ∃ i, x = .int i ∧ Q (g i) H
section
variable {X : Cx} {a b c : Expr} {ta tb tc : TE} {pos : Pos}
theorem binT (ha : PE X a ta) (hb : PE X b tb) {pins : List (Addr × Obj)} {s : Shared} {σ : St} {H : Hp} {R : V → V → Hp → Prop} (I : Inv X pins σ H s)
    (h : ta σ H fun x H1 => tb σ H1 fun y H2 => R x y H2) {Q : Value → Shared → Prop} {f : Value → Value → Sem Value}
    (hf : ∀ v u s2 x y H2, Inv X pins σ H2 s2 → RelV x v → RelV y u → R x y H2 → wpAny (model X.prog X.w) X.A (f v u) Q X.xe s2) :
    wpAny (model X.prog X.w) X.A (eval a X.env) (fun v s₁ => wpAny (model X.prog X.w) X.A (eval b X.env) (fun u s₂ => wpAny (model X.prog X.w) X.A (f v u) Q X.xe s₂) X.xe s₁) X.xe s := by
  refine thn (ha pins s σ H _ I h) fun v s1 ⟨x, H1, I1, r1, q1⟩ => ?_
  refine thn (hb pins s1 σ H1 _ I1 q1) fun u s2 ⟨y, H2, I2, r2, q2⟩ => ?_
  exact hf v u s2 x y H2 I2 r1 r2 q2
theorem pe_op {op : Operator} {r : R2} (ho : OpR X (binaryOp op) r) (ha : PE X a ta) (hb : PE X b tb) : PE X (.BinOp a op b pos) (tOp r ta tb) := by
  intro pins s σ H Q I h
  exact wpAny_BinOp (binT ha hb I h fun v u s2 x y H2 I2 rx ry q => ho pins s2 σ H2 x y v u Q I2 rx ry q)
theorem pe_un {op : UnaryOp} {r : V → Hp → VK → Prop} (ho : UnR X (unaryOp op) r) (ha : PE X a ta) : PE X (.UnaryOp op a pos) (tUn r ta) := by
  intro pins s σ H Q I h
  exact UnaryOp_ (thn (ha pins s σ H _ I h) fun v s1 ⟨x, H1, I1, r1, q1⟩ => ho pins s1 σ H1 x v Q I1 r1 q1)
theorem opI {f : Value → Value → Sem Value} {C : Int → Int → Prop} {g : Int → Int → Int}
    (rule : ∀ (i j : Int) (t u : Tok) (s : Shared) (Q : Value → Shared → Prop) (E : Value → Shared → Prop), C i j → Q (.int (g i j) s.toks) { s with toks := s.toks + 1 } → wpAny (model X.prog X.w) X.A (f (.int i t) (.int j u)) Q E s) :
    OpR X f (rI C fun i j => .int (g i j)) := by
  intro pins s σ H x y v u Q I rx ry h
  obtain ⟨i, j, rfl, rfl, hc, q⟩ := h
  obtain ⟨t, rfl⟩ := rx
  obtain ⟨t', rfl⟩ := ry
  exact rule i j t t' s _ _ hc ⟨.int (g i j), H, I.tok _, ⟨_, rfl⟩, q⟩
theorem opI0 {f : Value → Value → Sem Value} {g : Int → Int → Int}
    (rule : ∀ (i j : Int) (t u : Tok) (s : Shared) (Q : Value → Shared → Prop) (E : Value → Shared → Prop), Q (.int (g i j) s.toks) { s with toks := s.toks + 1 } → wpAny (model X.prog X.w) X.A (f (.int i t) (.int j u)) Q E s) :
    OpR X f (rI0 fun i j => .int (g i j)) := by
  intro pins s σ H x y v u Q I rx ry h
  obtain ⟨i, j, rfl, rfl, q⟩ := h
  obtain ⟨t, rfl⟩ := rx
  obtain ⟨t', rfl⟩ := ry
  exact rule i j t t' s _ _ ⟨.int (g i j), H, I.tok _, ⟨_, rfl⟩, q⟩
theorem opB0 {f : Value → Value → Sem Value} {g : Int → Int → Bool}
    (rule : ∀ (i j : Int) (t u : Tok) (s : Shared) (Q : Value → Shared → Prop) (E : Value → Shared → Prop), Q (.bool (g i j)) s → wpAny (model X.prog X.w) X.A (f (.int i t) (.int j u)) Q E s) :
    OpR X f (rI0 fun i j => .bl (g i j)) := by
  intro pins s σ H x y v u Q I rx ry h
  obtain ⟨i, j, rfl, rfl, q⟩ := h
  obtain ⟨t, rfl⟩ := rx
  obtain ⟨t', rfl⟩ := ry
  exact rule i j t t' s _ _ ⟨.bl (g i j), H, I, rfl, q⟩
def CDiv (i j : Int) : Prop := 0 < j ∧ j < 1073741824
def CDivN (i j : Int) : Prop := j ≠ 0 ∧ j.natAbs < 1073741824
def CPow (i j : Int) : Prop := 0 ≤ j ∧ j ≤ 1000000 ∧ i.natAbs < 2 ^ 64
def CMul (i j : Int) : Prop := (-(2 ^ 64) < i ∧ i < 2 ^ 64) ∨ (-(2 ^ 64) < j ∧ j < 2 ^ 64)
theorem CMul.ok {i j : Int} (h : CMul i j) : IntMulOk i j := by
  rcases h with ⟨h1, h2⟩ | ⟨h1, h2⟩
  · exact .of_left (intBits_le_64 h1 h2)
  · exact .of_right (intBits_le_64 h1 h2)
theorem op_add : OpR X (binaryOp .Add) (rI0 fun i j => .int (i + j)) := opI0 fun _ _ _ _ _ _ _ q => add_int q
theorem op_sub : OpR X (binaryOp .Sub) (rI0 fun i j => .int (i - j)) := opI0 fun _ _ _ _ _ _ _ q => sub_int q
theorem op_mod : OpR X (binaryOp .Mod) (rI (fun _ j => 0 < j) fun i j => .int (i % j)) := opI fun i j _ _ _ _ _ hc q => by
  have h1 : (0 : Int) < j := hc
  exact mod_int' (by omega) (by rw [Int.fmod_eq_emod_of_nonneg i (by omega)]; exact q)
theorem op_modN : OpR X (binaryOp .Mod) (rI (fun _ j => j ≠ 0) fun i j => .int (i.fmod j)) := opI fun _ _ _ _ _ _ _ hc q => mod_int' hc q
theorem unI {f : Value → Sem Value} {g : Int → Int}
    (rule : ∀ (i : Int) (t : Tok) (s : Shared) (Q : Value → Shared → Prop) (E : Value → Shared → Prop), Q (.int (g i) s.toks) { s with toks := s.toks + 1 } → wpAny (model X.prog X.w) X.A (f (.int i t)) Q E s) :
    UnR X f (rU fun i => .int (g i)) := by
  intro pins s σ H x v Q I rx h
  obtain ⟨i, rfl, q⟩ := h
  obtain ⟨t, rfl⟩ := rx
  exact rule i t s _ _ ⟨.int (g i), H, I.tok _, ⟨_, rfl⟩, q⟩
theorem un_neg : UnR X (unaryOp .USub) (rU fun i => .int (-i)) := unI fun _ _ _ _ _ q => neg_int q
end
def scal : V → V → Bool
  | .non, .non => true | .non, .int _ => true | .int _, .non => true | .non, .bl _ => true | .bl _, .non => true | .non, .str _ => true | .str _, .non => true
  | .int _, .int _ => true | .bl _, .bl _ => true | .str _, .str _ => true | .byt _, .byt _ => true
  | .int _, .str _ => true | .str _, .int _ => true | .bl _, .str _ => true | .str _, .bl _ => true
  | _, _ => false
def rEq : R2 := fun x y H Q => scal x y = true ∧ Q (.bl (decide (x = y))) H
def rNe : R2 := fun x y H Q => scal x y = true ∧ Q (.bl (!decide (x = y))) H
theorem dec_int {i j : Int} : decide (V.int i = V.int j) = (i == j) := by
  rw [Bool.eq_iff_iff]
  simp
theorem dec_bl {i j : Bool} : decide (V.bl i = V.bl j) = (i == j) := by
  rw [Bool.eq_iff_iff]
  simp
theorem dec_str {i j : Str} : decide (V.str i = V.str j) = (i == j) := by
  rw [Bool.eq_iff_iff]
  simp
theorem dec_byt {i j : Array UInt8} : decide (V.byt i = V.byt j) = (i.toList == j.toList) := by
  rw [Bool.eq_iff_iff]
  cases i
  cases j
  simp
section
variable {X : Cx} {a b c : Expr} {ta tb tc : TE} {pos : Pos}
theorem fin_bl {pins : List (Addr × Obj)} {σ : St} {H : Hp} {s : Shared} {Q : VK} {k k' : Bool} (I : Inv X pins σ H s) (q : Q (.bl k) H) (e : k = k') : EP X pins σ Q (.bool k') s := by
  subst e
  exact ⟨.bl k, H, I, rfl, q⟩
theorem op_eq : OpR X (compareOp .Eq) rEq := by
  intro pins s σ H x y v u Q I rx ry h
  obtain ⟨hs, q⟩ := h
  cases x with
  | non =>
    cases rx
    cases y with
    | non => cases ry; exact PySem.EqNone.eq_none_none (fin_bl I q (by simp))
    | bl j => cases ry; exact PySem.EqNone.eq_none_bool (fin_bl I q (by simp))
    | int j => obtain ⟨t', rfl⟩ := ry; exact PySem.EqNone.eq_none_int (fin_bl I q (by simp))
    | str j => obtain ⟨t', rfl⟩ := ry; exact PySem.EqNone.eq_none_str (fin_bl I q (by simp))
    | _ => exact absurd (show false = true from hs) Bool.false_ne_true
  | bl i =>
    cases rx
    cases y with
    | non => cases ry; exact PySem.EqNone.eq_bool_none (fin_bl I q (by simp))
    | bl j => cases ry; exact eq_bool (fin_bl I q dec_bl)
    | str j => obtain ⟨t', rfl⟩ := ry; exact PySem.EqMixed.eq_bool_str (fin_bl I q (by simp))
    | _ => exact absurd (show false = true from hs) Bool.false_ne_true
  | int i =>
    obtain ⟨t, rfl⟩ := rx
    cases y with
    | non => cases ry; exact PySem.EqNone.eq_int_none (fin_bl I q (by simp))
    | int j => obtain ⟨t', rfl⟩ := ry; exact eq_int (fin_bl I q dec_int)
    | str j => obtain ⟨t', rfl⟩ := ry; exact PySem.EqMixed.eq_int_str (fin_bl I q (by simp))
    | _ => exact absurd (show false = true from hs) Bool.false_ne_true
  | str i =>
    obtain ⟨t, rfl⟩ := rx
    cases y with
    | non => cases ry; exact PySem.EqNone.eq_str_none (fin_bl I q (by simp))
    | bl j => cases ry; exact PySem.EqMixed.eq_str_bool (fin_bl I q (by simp))
    | int j => obtain ⟨t', rfl⟩ := ry; exact PySem.EqMixed.eq_str_int (fin_bl I q (by simp))
    | str j => obtain ⟨t', rfl⟩ := ry; exact eq_str (fin_bl I q dec_str)
    | _ => exact absurd (show false = true from hs) Bool.false_ne_true
  | byt i =>
    obtain ⟨t, rfl⟩ := rx
    cases y with
    | byt j => obtain ⟨t', rfl⟩ := ry; exact PySem.W.eq_bytes (fin_bl I q dec_byt)
    | _ => exact absurd (show false = true from hs) Bool.false_ne_true
  | _ => cases y <;> exact absurd (show false = true from hs) Bool.false_ne_true
theorem op_ne : OpR X (compareOp .NotEq) rNe := by
  intro pins s σ H x y v u Q I rx ry h
  obtain ⟨hs, q⟩ := h
  cases x with
  | non =>
    cases rx
    cases y with
    | non => cases ry; exact PySem.EqNone.ne_none_none (fin_bl I q (by simp))
    | bl j => cases ry; exact PySem.EqNone.ne_none_bool (fin_bl I q (by simp))
    | int j => obtain ⟨t', rfl⟩ := ry; exact PySem.EqNone.ne_none_int (fin_bl I q (by simp))
    | str j => obtain ⟨t', rfl⟩ := ry; exact PySem.EqNone.ne_none_str (fin_bl I q (by simp))
    | _ => exact absurd (show false = true from hs) Bool.false_ne_true
  | bl i =>
    cases rx
    cases y with
    | non => cases ry; exact PySem.EqNone.ne_bool_none (fin_bl I q (by simp))
    | bl j => cases ry; exact ne_bool (fin_bl I q (congrArg not dec_bl))
    | str j => obtain ⟨t', rfl⟩ := ry; exact PySem.EqMixed.ne_bool_str (fin_bl I q (by simp))
    | _ => exact absurd (show false = true from hs) Bool.false_ne_true
  | int i =>
    obtain ⟨t, rfl⟩ := rx
    cases y with
    | non => cases ry; exact PySem.EqNone.ne_int_none (fin_bl I q (by simp))
    | int j => obtain ⟨t', rfl⟩ := ry; exact ne_int (fin_bl I q (congrArg not dec_int))
    | str j => obtain ⟨t', rfl⟩ := ry; exact PySem.EqMixed.ne_int_str (fin_bl I q (by simp))
    | _ => exact absurd (show false = true from hs) Bool.false_ne_true
  | str i =>
    obtain ⟨t, rfl⟩ := rx
    cases y with
    | non => cases ry; exact PySem.EqNone.ne_str_none (fin_bl I q (by simp))
    | bl j => cases ry; exact PySem.EqMixed.ne_str_bool (fin_bl I q (by simp))
    | int j => obtain ⟨t', rfl⟩ := ry; exact PySem.EqMixed.ne_str_int (fin_bl I q (by simp))
    | str j => obtain ⟨t', rfl⟩ := ry; exact ne_str (fin_bl I q (congrArg not dec_str))
    | _ => exact absurd (show false = true from hs) Bool.false_ne_true
  | byt i =>
    obtain ⟨t, rfl⟩ := rx
    cases y with
    | byt j => obtain ⟨t', rfl⟩ := ry; exact PySem.W.ne_bytes (fin_bl I q (congrArg not dec_byt))
    | _ => exact absurd (show false = true from hs) Bool.false_ne_true
  | _ => cases y <;> exact absurd (show false = true from hs) Bool.false_ne_true
theorem op_lt : OpR X (compareOp .Lt) (rI0 fun i j => .bl (decide (i < j))) := opB0 fun _ _ _ _ _ _ _ q => lt_int q
theorem op_le : OpR X (compareOp .LtE) (rI0 fun i j => .bl (decide (i ≤ j))) := opB0 fun _ _ _ _ _ _ _ q => le_int q
theorem op_in_str : OpR X (compareOp .In) (fun x y H Q => ∃ i j, x = .str i ∧ y = .str j ∧ Q (.bl (!(Builtin.Str.occurrences j i 0 j.length 1).isEmpty)) H) := by
  intro pins s σ H x y v u Q I rx ry h
  obtain ⟨i, j, rfl, rfl, q⟩ := h
  obtain ⟨t, rfl⟩ := rx
  obtain ⟨t', rfl⟩ := ry
  exact in_str (fin_bl I q rfl)
def isObj : HO → Bool
  | .lst _ => true
  | .ins _ _ _ => true
  | _ => false
theorem nomark (b : Expr) {op : CmpOp} (h : op ≠ .In := by decide) (h2 : op ≠ .NotIn := by decide) : behindInMarks op b = false := by
  have e1 : (op == CmpOp.In) = false := by cases op <;> first | rfl | exact absurd rfl h
  have e2 : (op == CmpOp.NotIn) = false := by cases op <;> first | rfl | exact absurd rfl h2
  cases b <;> simp [behindInMarks, e1, e2]
theorem pe_cmpR {op : CmpOp} {r : R2} (ho : OpR X (compareOp op) r) (ha : PE X a ta) (hb : PE X b tb) (hm : behindInMarks op b = false) : PE X (.Compare a [op] [b] pos) (tOp r ta tb) := by
  intro pins s σ H Q I h
  exact wpAny_Compare1 (binT ha hb I h fun v u s2 x y H2 I2 rx ry q => ho pins s2 σ H2 x y v u Q I2 rx ry q) hm
def tTest (t : TE) : TT := fun σ H Q => t σ H fun x H' => ∃ k, x = .bl k ∧ Q k H'
theorem pt_cmpR {op : CmpOp} {r : R2} (ho : OpR X (compareOp op) r) (ha : PE X a ta) (hb : PE X b tb) (hm : behindInMarks op b = false) : PT X (.Compare a [op] [b] pos) (tTest (tOp r ta tb)) := by
  intro pins s σ H Q I h
  refine wpAny_isTrue_Compare1 (thn (ha pins s σ H _ I h) fun v s1 ⟨x, H1, I1, r1, q1⟩ => thn (hb pins s1 σ H1 _ I1 q1) fun u s2 ⟨y, H2, I2, r2, q2⟩ =>
    thn (ho pins s2 σ H2 x y v u _ I2 r1 r2 q2) fun c s3 ⟨z, H3, I3, r3, k, e, q3⟩ => ?_) hm
  subst e
  cases r3
  exact wpAny_truthy_bool ⟨H3, I3, q3⟩
def tChain (r r' : R2) (ta tb tc : TE) : TE := fun σ H Q => ta σ H fun x H1 => tb σ H1 fun y H2 => r x y H2 fun z H3 => ∃ k, z = .bl k ∧
  (if k = true then tc σ H3 fun w' H4 => r' y w' H4 Q else Q (.bl false) H3)
theorem pt_chain {op op' : CmpOp} {r r' : R2} (ho : OpR X (compareOp op) r) (ho' : OpR X (compareOp op') r') (ha : PE X a ta) (hb : PE X b tb) (hc : PE X c tc)
    (hm : lastMarks [op, op'] [b, c] = false := by with_unfolding_all rfl) : PT X (.Compare a [op, op'] [b, c] pos) (tTest (tChain r r' ta tb tc)) := by
  intro pins s σ H Q I h
  refine isTrue_chain (thn (ha pins s σ H _ I h) fun v s1 ⟨x, H1, I1, r1, q1⟩ => test_link (thn (hb pins s1 σ H1 _ I1 q1) fun u s2 ⟨y, H2, I2, r2, q2⟩ =>
    thn (ho pins s2 σ H2 x y v u _ I2 r1 r2 q2) fun d s3 ⟨z, H3, I3, r3, k, e, q3⟩ => ?_)) hm
  subst e
  cases r3
  refine wpAny_truthy_bool ?_
  cases k with
  | false =>
    obtain ⟨k', e', q'⟩ := q3
    cases e'
    exact ite_ff ⟨H3, I3, q'⟩
  | true =>
    refine ite_tt (test_last (thn (hc pins s3 σ H3 _ I3 q3) fun w' s4 ⟨z', H4, I4, r4, q4⟩ => thn (ho' pins s4 σ H4 y z' u w' _ I4 r2 r4 q4) fun d' s5 ⟨z2, H5, I5, r5, k2, e2, q5⟩ => ?_))
    subst e2
    cases r5
    exact wpAny_truthy_bool ⟨H5, I5, q5⟩
def TruV (K : PySem.W.Frag) (x : V) (H : Hp) (k : Bool) : Prop :=
  match x with
  | .non => k = false
  | .bl b => k = b
  | .int i => k = (i != 0)
  | .str y => y.length ≤ sizeLine ∧ k = ((y.length : Int) != 0)
  | .byt y => y.size ≤ sizeLine ∧ k = ((y.size : Int) != 0)
  | .ref p => (∃ xs, SqL K H p xs ∧ k = !xs.isEmpty) ∨ (∃ xs, SqT K H p xs ∧ k = !xs.isEmpty) ∨ ∃ kvs, H p = some (.dK kvs) ∧ k = !kvs.isEmpty
  | _ => False
theorem line63 : (sizeLine : Nat) < 2 ^ 63 := by rw [sizeLine_eq]; decide
theorem op_add_str : OpR X (binaryOp .Add) (fun x y H Q => ∃ i j, x = .str i ∧ y = .str j ∧ i.length + j.length ≤ sizeLine ∧ Q (.str (i ++ j)) H) := by
  intro pins s σ H x y v u Q I rx ry h
  obtain ⟨i, j, rfl, rfl, hz, q⟩ := h
  obtain ⟨t, rfl⟩ := rx
  obtain ⟨t', rfl⟩ := ry
  exact add_str (fun t' tk => ⟨.str (i ++ j), H, I.tok _, ⟨_, rfl⟩, q⟩) hz
def PlainIxT (b : Expr) : Prop := ∀ o i, subscripted b false o i = operate [o, i] (getItem o i)
theorem vals1 {x : V} {us : List Value} (r : Vals [x] us) : ∃ u, us = [u] ∧ RelV x u := by
  cases r with
  | cons r1 r2 => cases r2; exact ⟨_, rfl, r1⟩
theorem vals2 {x y : V} {us : List Value} (r : Vals [x, y] us) : ∃ u w', us = [u, w'] ∧ RelV x u ∧ RelV y w' := by
  cases r with
  | cons r1 r2 =>
    cases r2 with
    | cons r3 r4 => cases r4; exact ⟨_, _, rfl, r1, r3⟩
theorem call_abs : CallR X (.builtin "abs") (fun xs H Q => ∃ i, xs = [.int i] ∧ Q (.int (if i < 0 then -i else i)) H) := by
  intro pins s σ H xs us Q I r h
  obtain ⟨i, rfl, q⟩ := h
  obtain ⟨u, rfl, t, rfl⟩ := vals1 r
  exact call_abs_int fun u tk => ⟨.int (if i < 0 then -i else i), H, I.tok _, ⟨_, rfl⟩, q⟩
def LenV (K : PySem.W.Frag) (x : V) (H : Hp) (n : Nat) : Prop :=
  match x with
  | .str y => y.length ≤ sizeLine ∧ n = y.length
  | .byt y => y.size ≤ sizeLine ∧ n = y.size
  | .ref p => (∃ xs, SqL K H p xs ∧ n = xs.length) ∨ ∃ xs, SqT K H p xs ∧ n = xs.length
  | _ => False
end
end L2
namespace L2
open PySem PySem.Spec PyProof.Rows
structure ObjM (h : Heap) (x dx C : Addr) (mA : Str → Option Value) : Prop where
  obj : h.get? x = some (PySem.W.instObj C dx)
  ns : h.Ns1 dx mA
  ne : dx ≠ x
theorem lookIn_ns {h : Heap} {dx : Addr} {mA : Str → Option Value} (n : h.Ns1 dx mA) : ∃ od, h.get? dx = some od ∧ ∀ name, PySem.W.lookIn name od = some (mA name) := by
  obtain ⟨o, es, ep, ho, hd, hk, _, hm⟩ := n
  refine ⟨o, ho, fun name => ?_⟩
  have e := hm name
  unfold nsFind findBy at e
  rw [← Array.find?_toList] at e
  unfold PySem.W.lookIn
  rw [hd]
  dsimp only
  split
  · rename_i y q
    rw [q] at e
    exact congrArg some e
  · rename_i q
    rw [q] at e
    have a : es.toList.any (·.refKey) = false := by
      rw [List.any_eq_false]
      intro y hy
      obtain ⟨z, t, hkey⟩ := hk y (Array.mem_toList_iff.mp hy)
      simp [DictEntry.refKey, hkey]
    have a' : ¬ es.toList.any (·.refKey) = true := by rw [a]; exact Bool.false_ne_true
    rw [if_neg a']
    exact congrArg some e
theorem ObjM.look {h : Heap} {x dx C : Addr} {mA : Str → Option Value} (I : ObjM h x dx C mA) : ∃ od, PySem.W.InstAt h x (PySem.W.instObj C dx) C (some od) ∧ ∀ name, PySem.W.lookIn name od = some (mA name) :=
  let ⟨od, ho, hl⟩ := lookIn_ns I.ns
  ⟨od, ⟨I.obj, rfl, rfl, ho⟩, hl⟩
section
variable {prog : Program} {w : World} {A : Around} {E : Value → Shared → Prop} {s : Shared} {K : PySem.W.Frag} {x dx C f : Addr} {mA : Str → Option Value} {name : Str} {v : Value}
end
def putF (f : Str) (v : V) : List (Str × V) → List (Str × V)
  | [] => [(f, v)]
  | (g, x) :: r => if g = f then (g, v) :: r else (g, x) :: putF f v r
theorem RelO.some_of {v : V} {o : Option Value} (r : RelO (some v) o) : ∃ u, o = some u ∧ RelV v u := by
  cases o with
  | none => exact (show False from r).elim
  | some u => exact ⟨u, rfl, r⟩
section
variable {P : Program} {w : World} {H H' : Hp} {h h' : Heap} {a C dx : Addr} {fs fs' : List (Str × V)}
theorem ins_get (hok : HOk P w H h) (e : H a = some (.ins C dx fs)) : ∃ mA, ObjM h a dx C mA ∧ (∀ f, RelO (fs.lookup f) (mA f)) ∧ PySem.Within mA (fs.map (·.1)) ∧ fs.length ≤ 1000 ∧ H dx = some (.own a) := by
  obtain ⟨d, z, ne, ob, mA, n, r, q⟩ := (show ObjOk P w H h a (.ins C dx fs) from hok a _ e)
  exact ⟨mA, ⟨ob, n, ne⟩, r, q, z, d⟩
end
structure Cls (K : PySem.W.Frag) (C : Addr) : Prop where
  pg : PySem.W.plainGet K C Str.empty = true
  hd : PySem.W.hasDictIn K C = true
  po : PySem.W.plainOver K C = true
  sa : PySem.W.findIn K (.ref C) "__setattr__" = some (some (.builtin "object.__setattr__"))
theorem Cls.get {K : PySem.W.Frag} {C : Addr} (c : Cls K C) (f : Str) : PySem.W.plainGet K C f = true := c.pg
def NoAttr (K : PySem.W.Frag) (C : Addr) (f : Str) : Prop := PySem.W.findIn K (.ref C) f = some none
structure Con (K : PySem.W.Frag) (C : Addr) (f : Str) (v : V) (u : Value) : Prop where
  at_ : PySem.W.findIn K (.ref C) f = some (some u)
  rel : RelV v u
  get : PySem.W.specialIn K u "__get__" = some none
  cp : PySem.W.copiedNames.contains f = false
structure Meth (K : PySem.W.Frag) (C : Addr) (m : Str) (f : Addr) : Prop where
  at_ : PySem.W.findIn K (.ref C) m = some (some (.ref f))
  fn : PySem.W.isFn K (.ref f) = true
  kp : PySem.W.keepIn K (.ref f) = true
section
variable {X : Cx} {pins : List (Addr × Obj)} {σ : St} {H : Hp} {s : Shared} {a C dx : Addr} {fs : List (Str × V)} {f : Str} {v : V} {A : Around} {E : Value → Shared → Prop}
end
def tFld (K : PySem.W.Frag) (ta : TE) (f : Str) : TE := fun σ H Q => ta σ H fun x H1 => ∃ a C dx fs v, x = .ref a ∧ H1 a = some (.ins C dx fs) ∧ Cls K C ∧ NoAttr K C f ∧ fs.lookup f = some v ∧ Q v H1
def tCon (K : PySem.W.Frag) (ta : TE) (f : Str) : TE := fun σ H Q => ta σ H fun x H1 => ∃ a C dx fs v u, x = .ref a ∧ H1 a = some (.ins C dx fs) ∧ Cls K C ∧ Con K C f v u ∧ fs.lookup f = none ∧ Q v H1
def sFld (K : PySem.W.Frag) (ta tv : TE) (f : Str) : TS := fun D σ H => tv σ H fun y H1 => ta σ H1 fun x H2 => ∃ a C dx fs, x = .ref a ∧ H2 a = some (.ins C dx fs) ∧ Cls K C ∧ NoAttr K C f ∧ fs.length < 1000 ∧
  D.nx σ (upd H2 a (.ins C dx (putF f y fs)))
def InOp (X : Cx) (op : Operator) (rd : V → V → Hp → VK → Prop) : Prop :=
  ∀ (pins : List (Addr × Obj)) (s : Shared) (σ : St) (H : Hp) (x y : V) (u v : Value) (Q : VK), Inv X pins σ H s → RelV x u → RelV y v → rd x y H Q → wpAny (model X.prog X.w) X.A (inplaceOp op u v) (EP X pins σ Q) X.xe s
def sFldAug (K : PySem.W.Frag) (ta tv : TE) (rd : V → V → Hp → VK → Prop) (f : Str) : TS := fun D σ H => ta σ H fun x H1 => ∃ a C dx fs v, x = .ref a ∧ H1 a = some (.ins C dx fs) ∧ Cls K C ∧ NoAttr K C f ∧ fs.lookup f = some v ∧
  tv σ H1 fun y H2 => rd v y H2 fun z H3 => ∃ dx' fs', H3 a = some (.ins C dx' fs') ∧ fs'.length < 1000 ∧ D.nx σ (upd H3 a (.ins C dx' (putF f z fs')))
section
variable {X : Cx} {o e value : Expr} {f : Str} {pos pos' tpos : Pos} {ta tv : TE}
def rAdd : V → V → Hp → VK → Prop := fun x y H Q => ∃ i j, x = .int i ∧ y = .int j ∧ Q (.int (i + j)) H
def rSub : V → V → Hp → VK → Prop := fun x y H Q => ∃ i j, x = .int i ∧ y = .int j ∧ Q (.int (i - j)) H
end
section
variable {X : Cx} {pins : List (Addr × Obj)} {σ : St} {H : Hp} {s : Shared} {A : Around} {E : Value → Shared → Prop} {Q : Value → Shared → Prop} {c : Value} {b : Bool}
inductive TyOf (K : PySem.W.Frag) (H : Hp) : V → Value → Prop where
  | non : TyOf K H .non (.type "NoneType")
  | bl (x : Bool) : TyOf K H (.bl x) (.type "bool")
  | int (i : Int) : TyOf K H (.int i) (.type "int")
  | str (x : Str) : TyOf K H (.str x) (.type "str")
  | flt (x : UInt64) : TyOf K H (.flt x) (.type "float")
  | lst {a : Addr} {xs : List V} (e : H a = some (.lst xs)) : TyOf K H (.ref a) (.type "list")
  | frz {a : Addr} {o : Obj} {xs : List V} (e : H a = some (.frz o (.lst xs))) : TyOf K H (.ref a) (.type "list")
  | tup {a : Addr} {xs : List V} (e : H a = some (.tup xs)) : TyOf K H (.ref a) (.type "tuple")
  | dK {a : Addr} {kvs : List (Key × V)} (e : H a = some (.dK kvs)) : TyOf K H (.ref a) (.type "dict")
  | dT {a : Addr} {kvs : List (List Key × V)} (e : H a = some (.dT kvs)) : TyOf K H (.ref a) (.type "dict")
  | ins {a C dx : Addr} {fs : List (Str × V)} (e : H a = some (.ins C dx fs)) (cl : Cls K C) (ha : PySem.W.findIn K (.ref C) "__class__" = some (some (.builtin "object.__class__")))
      (hn : PySem.W.specialIn K (.builtin "object.__class__") "__get__" = some (some (.builtin "getset_descriptor.__get__"))) (htk : PySem.W.takesIn K (.builtin "object.__class__") = some true)
      (hm : PySem.W.mroIn K C (.type "object") = some true) : TyOf K H (.ref a) (.ref C)
theorem isinst_ok {x : V} {u t : Value} (I : Inv X pins σ H s) (rx : RelV x u) (ty : TyOf X.K H x t) (e : PySem.W.kitOne X.K t c = some b) (h : ∀ tk, Q (.bool b) { s with toks := tk }) :
    wpAny (model X.prog X.w) A (call (.builtin "isinstance") [u, c]) Q E s := by
  cases ty with
  | non => cases (show u = Value.none from rx); exact PySem.W.kia_one PySem.W.kitx_none I.kIn True.intro e (fun z => nomatch z) h
  | bl y => cases (show u = Value.bool y from rx); exact PySem.W.kia_one PySem.W.kitx_bool I.kIn True.intro e (fun z => nomatch z) h
  | int i => obtain ⟨t, q⟩ := (show ∃ t, u = Value.int i t from rx); cases q; exact PySem.W.kia_one PySem.W.kitx_int I.kIn True.intro e (fun z => nomatch z) h
  | str y => obtain ⟨t, q⟩ := (show ∃ t, u = Value.str y t from rx); cases q; exact PySem.W.kia_one PySem.W.kitx_str I.kIn True.intro e (fun z => nomatch z) h
  | flt y => obtain ⟨t, q⟩ := (show ∃ t, u = Value.float y t from rx); cases q; exact PySem.W.kia_one PySem.W.kitx_float I.kIn True.intro e (fun z => nomatch z) h
  | @lst a xs ea =>
    cases (show u = Value.ref a from rx)
    obtain ⟨_, _, n, _, h1⟩ := (show ObjOk X.prog X.w H s.heap a (.lst xs) from I.hok a _ ea)
    exact PySem.W.kia_one PySem.W.kitx_list I.kIn ⟨_, h1, rfl⟩ e (fun z => nomatch z) h
  | @frz a ob xs ea =>
    cases (show u = Value.ref a from rx)
    obtain ⟨_, _, _, n, _, h1⟩ := (show ObjOk X.prog X.w H s.heap a (.frz ob (.lst xs)) from I.hok a _ ea)
    exact PySem.W.kia_one PySem.W.kitx_list I.kIn ⟨_, h1, rfl⟩ e (fun z => nomatch z) h
  | @tup a xs ea =>
    cases (show u = Value.ref a from rx)
    obtain ⟨_, _, _, p⟩ := (show ObjOk X.prog X.w H s.heap a (.tup xs) from I.hok a _ ea)
    obtain ⟨o, h1, h2, _⟩ := p
    exact PySem.W.kia_one PySem.W.kitx_tuple I.kIn ⟨o, h1, h2⟩ e (fun z => nomatch z) h
  | @dK a kvs ea =>
    cases (show u = Value.ref a from rx)
    obtain ⟨_, _, vs, _, p⟩ := (show ObjOk X.prog X.w H s.heap a (.dK kvs) from I.hok a _ ea)
    obtain ⟨o, es, ep, h1, h2, _⟩ := p
    exact PySem.W.kia_one PySem.W.kitx_dict I.kIn ⟨o, h1, h2.1⟩ e (fun z => nomatch z) h
  | @dT a kvs ea =>
    cases (show u = Value.ref a from rx)
    obtain ⟨_, _, xs, _, o, es, ep, h1, h2, _⟩ := (show ObjOk X.prog X.w H s.heap a (.dT kvs) from I.hok a _ ea)
    exact PySem.W.kia_one PySem.W.kitx_dict I.kIn ⟨o, h1, h2.1⟩ e (fun z => nomatch z) h
  | @ins a C dx fs ea cl ha hn htk hm =>
    cases (show u = Value.ref a from rx)
    obtain ⟨mA, O, _⟩ := ins_get I.hok ea
    obtain ⟨od, J, _⟩ := O.look
    exact PySem.W.kia_one (PySem.W.kitx_own (cl.get _) cl.hd ha hn htk hm) I.kIn J e (fun z => nomatch z) h
end
end L2
namespace L2
open PySem PySem.Spec PyProof.Rows
structure Room (k : Nat) (A : Around) : Prop where
  hd : A.handled = none
  dp : A.depth + 3 * k + 5 < recursionLimit
  un : A.units + 16 * k + 200 < cLine
theorem Room.mono {j k : Nat} {A : Around} (r : Room k A) (h : j ≤ k) : Room j A := ⟨r.hd, by have := r.dp; omega, by have := r.un; omega⟩
theorem Room.deeper {k : Nat} {A : Around} (r : Room (k + 1) A) (env : Env) : Room k (A.deeper env) :=
  ⟨r.hd, by have := r.dp; show A.depth + 1 + 3 * k + 5 < _; omega, by have := r.un; show A.units + 3 + 16 * k + 200 < _; omega⟩
theorem Room.depth {k : Nat} {A : Around} (r : Room k A) : A.depth < recursionLimit := by have := r.dp; omega
theorem Room.units {k : Nat} {A : Around} (r : Room k A) : A.units + 64 < cLine := by have := r.un; omega
def tNil : TA := fun _ H Q => Q [] H
def tCons (ta : TE) (tr : TA) : TA := fun σ H Q => ta σ H fun x H1 => tr σ H1 fun xs H2 => Q (x :: xs) H2
section
variable {X : Cx} {e : Expr} {es : List Expr} {te : TE} {t : TA} {pos : Pos}
theorem pa_nil : PA X [] tNil := fun _ _ _ _ H Q I h => Calls.spliced_nil ⟨[], H, I, .nil, h⟩
theorem pa_cons (ha : PE X e te) (hr : PA X es t) (hs : starEach (e :: es) X.env = (false, eval e X.env) :: starEach es X.env := by rfl) : PA X (e :: es) (tCons te t) := by
  intro pos pins s σ H Q I h
  rw [hs]
  show wpAny _ _ (spliced ((false, eval e X.env) :: backTo pos (starEach es X.env))) _ _ s
  refine Calls.spliced_cons (thn (ha pins s σ H _ I h) fun u s1 ⟨x, H1, I1, r1, q1⟩ => ?_)
  exact thn (hr pos pins s1 σ H1 _ I1 q1) fun us s2 ⟨xs, H2, I2, r2, q2⟩ => ⟨x :: xs, H2, I2, .cons r1 r2, q2⟩
def tTup (t : TA) : TE := fun σ H Q => t σ H fun xs H1 => xs.length ≤ sizeLine ∧ ∀ p, H1 p = none → Q (.ref p) (upd H1 p (.tup xs))
def tLst (t : TA) : TE := fun σ H Q => t σ H fun xs H1 => xs.length ≤ sizeLine ∧ ∀ p, H1 p = none → Q (.ref p) (upd H1 p (.lst xs))
theorem pe_lst (h : PA X es t) : PE X (.List es pos) (tLst t) := by
  intro pins s σ H Q I hq
  refine wpAny_List_spliced (thn (h pos pins s σ H _ I hq) fun us s1 ⟨xs, H1, I1, r, z, q⟩ => ⟨by rw [← r.length]; exact z, ?_⟩)
  have hf : H1 s1.heap.objs.size = none := I1.hok.fresh (Nat.le_refl _)
  refine ⟨.ref s1.heap.objs.size, upd H1 s1.heap.objs.size (.lst xs), I1.laid (t' := s1.toks) (fun b u e => Heap.get?_push_of_some _ e) (Nat.le_refl _) ?_, rfl, q _ hf⟩
  exact ⟨z, us, 0, r, Heap.get?_push_size _ rfl⟩
end
abbrev Sp := List V → Hp → VK → XK → Prop
abbrev CXT := List Env → Hp → Shared → XK → Value → Shared → Prop
structure Env0 (P : Program) (w : World) (K : PySem.W.Frag) (mg : Str → Option Value) (base : Heap) (A : Around) (outer : List Env) (s : Shared) (H : Hp) : Prop where
  frames : A.frames = some outer
  mod : Mod K mg base
  bs : ∀ b o, base.get? b = some o → s.heap.get? b = some o ∧ H b = none
  bsz : base.objs.size ≤ s.heap.objs.size
  funs : s.heap.FunFrames base outer
  frf : ∀ b ∈ frs outer, H b = none
  hok : HOk P w H s.heap
  bare : AllBare s.gens
def CE (outer : List Env) (P : Program) (w : World) (H : Hp) (s : Shared) (Q : VK) (u : Value) (s' : Shared) : Prop :=
  ∃ v H', s'.os = s.os ∧ AllBare s'.gens ∧ Un (frs outer) [] H H' s.heap s'.heap ∧ HOk P w H' s'.heap ∧ RelV v u ∧ Q v H'
def CR (CX : CXT) (outer : List Env) (P : Program) (w : World) (H : Hp) (s : Shared) (Q : VK) (E : XK) (r : Result) (s' : Shared) : Prop :=
  match r with
  | .ok (.ret u) => CE outer P w H s Q u s'
  | .ok _ => False
  | .error e => CX outer H s E e s'
structure FnOk (P : Program) (w : World) (K : PySem.W.Frag) (mg : Str → Option Value) (base : Heap) (CX : CXT) (k : Nat) (f : Addr) (fd : FuncData) (ps : List Str) (sp : Sp) : Prop where
  len : ∀ vs H Q E, sp vs H Q E → vs.length = ps.length
  run : ∀ (A : Around) (outer : List Env) (s : Shared) (H : Hp) (args : Args) (us : List Value) (vs : List V) (Q : VK) (E : XK), Room k A → Env0 P w K mg base A outer s H → BindsTo s fd args (ps.zip us) → Vals vs us → sp vs H Q E →
    codeAny (model P w) A (.call (.ref f) args) (CR CX outer P w H s Q E) s
theorem FnOk.mono {P : Program} {w : World} {K : PySem.W.Frag} {mg : Str → Option Value} {base : Heap} {CX : CXT} {j k : Nat} {f : Addr} {fd : FuncData} {ps : List Str} {sp : Sp} (F : FnOk P w K mg base CX j f fd ps sp) (h : j ≤ k) :
    FnOk P w K mg base CX k f fd ps sp := ⟨F.len, fun A outer s H args us vs Q E hr => F.run A outer s H args us vs Q E (hr.mono h)⟩
section
variable {X : Cx} {pins : List (Addr × Obj)} {σ : St} {H : Hp} {s s' : Shared}
theorem Inv.env0 (I : Inv X pins σ H s) : Env0 X.prog X.w X.K X.mg X.base X.A X.stack s H :=
  ⟨I.ok.frames, I.ok.mod, I.bs, Nat.le_trans I.ok.bsz I.sz, I.stack, I.stkFree, I.hok, I.bare⟩
theorem Inv.after {Q : VK} {u : Value} (I : Inv X pins σ H s) (h : CE X.stack X.prog X.w H s Q u s') : EP X pins σ Q u s' := by
  obtain ⟨v, H', os, bare, un, hok, r, q⟩ := h
  obtain ⟨hh, g, d, t, os'⟩ := s'
  obtain rfl : os' = s.os := os
  exact ⟨v, H', I.call (h' := hh) (g' := g) (d' := d) (t' := t) (ch := []) un hok bare (fun b z => absurd z (by simp)), r, q⟩
end
def tCall (sp : Sp) (dvs : List V) (E : XK) (t : TA) : TE := fun σ H Q => t σ H fun vs H1 => sp (vs ++ dvs) H1 Q E
def tMeth (C : Addr) (m : Str) (sp : Sp) (dvs : List V) (E : XK) (ta : TE) (t : TA) : TE := fun σ H Q => ta σ H fun x H1 => ∃ a dx fs, x = .ref a ∧ H1 a = some (.ins C dx fs) ∧ fs.lookup m = none ∧
  t σ H1 fun vs H2 => sp (x :: (vs ++ dvs)) H2 Q E
def tMake (C : Addr) (sp : Sp) (dvs : List V) (E : XK) (t : TA) : TE := fun σ H Q => t σ H fun vs H1 => ∀ x dx, H1 x = none → H1 dx = none → dx ≠ x →
  sp (.ref x :: (vs ++ dvs)) (upd (upd H1 dx (.own x)) x (.ins C dx [])) (fun v H2 => v = .non ∧ Q (.ref x) H2) E
def Binds (K : PySem.W.Frag) (fd : FuncData) (ps : List Str) (ds : List Value) : Prop :=
  ∀ (s : Shared) (us : List Value), K.In s.heap → (us ++ ds).length = ps.length → BindsTo s fd ⟨us, []⟩ (ps.zip (us ++ ds))
theorem Binds.all {K : PySem.W.Frag} {fd : FuncData} {ps : List Str} (h : ∀ us : List Value, us.length = ps.length → bindArgs fd ⟨us, []⟩ = pure (ps.zip us)) : Binds K fd ps [] := fun s us _ hl => by
  rw [List.append_nil] at hl ⊢
  exact .of_eq (h us hl)
def Passes (CX : CXT) (X : Cx) (E : XK) : Prop := ∀ (pins : List (Addr × Obj)) (σ : St) (H : Hp) (s : Shared) (e : Value) (s' : Shared), Inv X pins σ H s → CX X.stack H s E e s' → X.xe e s'
section
variable {X : Cx} {CX : CXT} {k : Nat} {f C : Addr} {fd : FuncData} {ps : List Str} {sp : Sp} {dvs : List V} {ds : List Value} {E : XK} {x m : Str} {p pos apos : Pos} {e o : Expr} {es : List Expr} {ta : TE} {t : TA}
theorem run_fn {pins : List (Addr × Obj)} {σ : St} {H : Hp} {s : Shared} {Q : VK} {us : List Value} {vs : List V} (F : FnOk X.prog X.w X.K X.mg X.base CX k f fd ps sp) (hr : Room k X.A) (hb : Binds X.K fd ps ds) (hd : Vals dvs ds) (hx : Passes CX X E)
    (I : Inv X pins σ H s) (r : Vals vs us) (h : sp (vs ++ dvs) H Q E) : wpAny (model X.prog X.w) X.A (call (.ref f) us) (EP X pins σ Q) X.xe s := by
  have r2 : Vals (vs ++ dvs) (us ++ ds) := r.append hd
  have hl : (us ++ ds).length = ps.length := by rw [← r2.length]; exact F.len _ _ _ _ h
  refine wpAny_call (codeAny_mono (F.run X.A X.stack s H ⟨us, []⟩ (us ++ ds) (vs ++ dvs) Q E hr I.env0 (hb s us I.kIn hl) r2 h) fun r s' hq => ?_)
  cases r with
  | error e => exact hx pins σ H s e s' I hq
  | ok fl =>
    cases fl with
    | ret u => exact I.after hq
    | next => exact False.elim hq
    | brk => exact False.elim hq
    | cont => exact False.elim hq
theorem pe_call (F : FnOk X.prog X.w X.K X.mg X.base CX k f fd ps sp) (hr : Room k X.A) (hg : Gl X x) (hm : X.mg x = some (.ref f)) (hk : PySem.W.keepIn X.K (.ref f) = true) (hb : Binds X.K fd ps ds) (hd : Vals dvs ds) (hx : Passes CX X E)
    (ha : PA X (e :: es) t) (hdb : (x == ("__debug__" : Str)) = false := by decide) (he : starEach (e :: es) X.env = (false, eval e X.env) :: starEach es X.env := by rfl) (hpl : (backTo pos (starEach es X.env)).any (·.1) = false := by rfl) :
    PE X (.Call (.Name x p) (e :: es) [] pos) (tCall sp dvs E t) := by
  intro pins s σ H Q I h
  refine wpAny_Call_Name_kw (ld_glob I hg hm ?_ hdb)
  refine PySem.W.callWith_K (h₀ := X.base) I.ok.mod.kin hk (thn (ha pos pins s σ H _ I h) fun us s1 ⟨vs, H1, I1, r, q⟩ => ⟨I1.kIn, ?_⟩) he hpl
  exact run_fn F hr hb hd hx I1 r q
structure Mk (K : PySem.W.Frag) (C f : Addr) : Prop where
  makes : PySem.W.makesIn K C = true
  init : PySem.W.findIn K (.ref C) "__init__" = some (some (.ref f))
  fn : PySem.W.isFn K (.ref f) = true
  kp : PySem.W.keepIn K (.ref C) = true
end
def PK (X : Cx) (kws : List Keyword) (t : TA) : Prop :=
  ∀ (pos : Pos) (pins : List (Addr × Obj)) (s : Shared) (σ : St) (H : Hp) (Q : List V → Hp → Prop), Inv X pins σ H s → t σ H Q → wpAny (model X.prog X.w) X.A (evalAll ((backToKw pos (keywordEach kws X.env)).map (·.2))) (AP X pins σ Q) X.xe s
section
variable {X : Cx} {CX : CXT} {k : Nat} {f C : Addr} {fd : FuncData} {ps ks : List Str} {sp : Sp} {E : XK} {x m : Str} {p pos apos kpos : Pos} {e o : Expr} {es : List Expr} {kws : List Keyword} {te ta : TE} {t tk : TA} {nm : Option Str}
structure KBinds (K : PySem.W.Frag) (fd : FuncData) (ps ks : List Str) (g : List Value → List Value → List Value) (gV : List V → List V → List V) : Prop where
  to : ∀ (s : Shared) (us ws : List Value), K.In s.heap → (g us ws).length = ps.length → BindsTo s fd ⟨us, ks.zip ws⟩ (ps.zip (g us ws))
  rel : ∀ {vs : List V} {us : List Value} {zs : List V} {ws : List Value}, Vals vs us → Vals zs ws → Vals (gV vs zs) (g us ws)
def tCallK (sp : Sp) (gV : List V → List V → List V) (E : XK) (t tk : TA) : TE := fun σ H Q => t σ H fun vs H1 => tk σ H1 fun zs H2 => sp (gV vs zs) H2 Q E
variable {g : List Value → List Value → List Value} {gV : List V → List V → List V}
end
structure FnScope (N P : List Str) (sc : Scope) : Prop where
  kind : sc.kind = .function
  co : sc.isCoroutine = false
  gen : sc.isGenerator = false
  nd : N.Nodup
  pre : N.take P.length = P
  par : ∀ x ∈ P, sc.names.lookup x = some .local ∨ sc.names.lookup x = some .cell
  nofree : ∀ y ∈ sc.names, y.2 ≠ .free
theorem bindL_out {kindOf : Str → Option NameKind} {x : Str} : ∀ {binds : List (Str × Value)} {m : Str → Option Value}, (∀ v, (x, v) ∉ binds) → bindL kindOf binds m x = m x
  | [], _, _ => rfl
  | (n, v) :: r, m, h => by
    unfold bindL
    rw [bindL_out fun w hw => h w (List.mem_cons_of_mem _ hw)]
    split
    · have : x ≠ n := by rintro rfl; exact h v List.mem_cons_self
      simp [this]
    · rfl
theorem bindC_out {kindOf : Str → Option NameKind} {x : Str} : ∀ {binds : List (Str × Value)} {m : Str → Option Value}, (∀ v, (x, v) ∉ binds) → bindC kindOf binds m x = m x
  | [], _, _ => rfl
  | (n, v) :: r, m, h => by
    unfold bindC
    rw [bindC_out fun w hw => h w (List.mem_cons_of_mem _ hw)]
    split
    · rfl
    · have : x ≠ n := by rintro rfl; exact h v List.mem_cons_self
      simp [this]
theorem bindL_get {kindOf : Str → Option NameKind} {x : Str} {v : Value} : ∀ {P : List Str} {vs : List Value} {i : Nat} {m : Str → Option Value}, P.Nodup → P[i]? = some x → vs[i]? = some v → kindOf x = some .local →
    bindL kindOf (P.zip vs) m x = some v
  | [], _, _, _, _, h, _, _ => by simp at h
  | _ :: _, [], _, _, _, _, h, _ => by simp at h
  | p :: P, w :: vs, 0, m, nd, h1, h2, hk => by
    simp at h1 h2; subst h1; subst h2
    show bindL kindOf ((p, w) :: P.zip vs) m p = _
    unfold bindL
    rw [bindL_out fun v hv => (List.nodup_cons.mp nd).1 (List.of_mem_zip hv).1, if_pos hk]
    simp
  | p :: P, w :: vs, i + 1, m, nd, h1, h2, hk => by
    show bindL kindOf ((p, w) :: P.zip vs) m x = _
    unfold bindL
    exact bindL_get (i := i) (List.nodup_cons.mp nd).2 (by simpa using h1) (by simpa using h2) hk
theorem bindC_get {kindOf : Str → Option NameKind} {x : Str} {v : Value} : ∀ {P : List Str} {vs : List Value} {i : Nat} {m : Str → Option Value}, P.Nodup → P[i]? = some x → vs[i]? = some v → kindOf x ≠ some .local →
    bindC kindOf (P.zip vs) m x = some v
  | [], _, _, _, _, h, _, _ => by simp at h
  | _ :: _, [], _, _, _, _, h, _ => by simp at h
  | p :: P, w :: vs, 0, m, nd, h1, h2, hk => by
    simp at h1 h2; subst h1; subst h2
    show bindC kindOf ((p, w) :: P.zip vs) m p = _
    unfold bindC
    rw [bindC_out fun v hv => (List.nodup_cons.mp nd).1 (List.of_mem_zip hv).1, if_neg hk]
    simp
  | p :: P, w :: vs, i + 1, m, nd, h1, h2, hk => by
    show bindC kindOf ((p, w) :: P.zip vs) m x = _
    unfold bindC
    exact bindC_get (i := i) (List.nodup_cons.mp nd).2 (by simpa using h1) (by simpa using h2) hk
def start (N : List Str) (vs : List V) : St := vs.map some ++ List.replicate (N.length - vs.length) none
def cxOf (CX : CXT) (P : Program) (w : World) (K : PySem.W.Frag) (mg : Str → Option Value) (base : Heap) (N : List Str) (qual : Str) (scope : Scope) (f : Addr) (cd : Value) (A : Around) (outer : List Env) (s : Shared) (H : Hp) (E : XK) : Cx where
  prog := P
  w := w
  K := K
  mg := mg
  base := base
  A := A.deeper (envOfC qual scope s.heap.objs.size f cd)
  N := N
  s₀ := s
  H₀ := H
  env := envOfC qual scope s.heap.objs.size f cd
  outer := outer
  stack := envOfC qual scope s.heap.objs.size f cd :: outer
  ex := []
  calm := true
  fn := fun _ => true
  pn := []
  xe := fun e s' => wpAny (model P w) (A.deeper (envOfC qual scope s.heap.objs.size f cd)) (leaving (envOfC qual scope s.heap.objs.size f cd) e) (fun _ s'' => CX outer H s E e s'') (fun e' s'' => CX outer H s E e' s'') s'
theorem cell_has {sc : Scope} {n : Nat} {x : Str} (h : sc.names.lookup x = some .cell) : ∃ c, (cellsFrom n sc.names []).lookup x = some c := by
  have q := PySem.W.cellsFrom_some sc.names n [] (.inl h)
  exact Option.isSome_iff_exists.mp q
theorem inv_start {CX : CXT} {P : Program} {w : World} {K : PySem.W.Frag} {mg : Str → Option Value} {base : Heap} {N ps : List Str} {qual : Str} {scope : Scope} {f : Addr} {cd : Value} {A : Around} {outer : List Env} {s s1 : Shared} {H : Hp} {E : XK} {us : List Value} {vs : List V}
    (S : FnScope N ps scope) (hd : A.handled = none) (e0 : Env0 P w K mg base A outer s H) (hl : vs.length = ps.length) (r : Vals vs us)
    (x : InCallC s s.heap.objs.size (bindL (envOfC qual scope s.heap.objs.size f cd).kindOf (ps.zip us) fun _ => none) (cellsFrom (s.heap.objs.size + 1) scope.names []) (bindC (envOfC qual scope s.heap.objs.size f cd).kindOf (ps.zip us) fun _ => none) s1) :
    Inv (cxOf CX P w K mg base N qual scope f cd A outer s H E) [] (start N vs) H s1 := by
  have hpl : ps.length ≤ N.length := by have := congrArg List.length S.pre; rw [List.length_take] at this; omega
  obtain ⟨h1, tk, rfl, hk⟩ := x.done
  have noA : ∀ b : Addr, b ∉ (cxOf CX P w K mg base N qual scope f cd A outer s H E).ex := fun b z => absurd (show b ∈ ([] : List Addr) from z) (by simp)
  refine ⟨⟨e0.mod, S.kind, rfl, rfl, Nat.le_refl _, fun y z c h1 h2 => ?_, fun y hy => ?_, fun y c _ h => ?_, fun _ => hd, Around.frames_deeper e0.frames, .inr ⟨rfl, rfl⟩, fun b z => absurd z (noA b), e0.bs, e0.bsz, fun b _ _ => noA b, fun b z => absurd z (noA b), e0.funs, e0.frf⟩,
    rfl, e0.bare, Un.kept hk, ⟨_, x.toInCall.ns, fun i y v h1 h2 h3 => ?_⟩, fun y c h => ⟨_, x.cell y c h⟩, e0.hok.fresh (Nat.le_refl _), fun y c h => ?_, fun p hp => absurd (show p ∈ ([] : List (Addr × Obj)) from hp) (by simp), e0.hok.kept hk, ?_⟩
  · exact name_of_addr x.apart (PySem.mem_of_lookup h1) (PySem.mem_of_lookup h2)
  · have hy : scope.names.lookup y = some .cell ∨ scope.names.lookup y = some .free := hy
    rcases hy with hy | hy
    · exact cell_has hy
    · exact absurd rfl (S.nofree _ (PySem.mem_of_lookup hy))
  · exact Nat.le_of_lt (x.above y c (PySem.mem_of_lookup h))
  · have hi : i < vs.length := by
      unfold start at h2
      by_cases hi : i < vs.length
      · exact hi
      · rw [List.getElem?_append_right (by simpa using hi)] at h2
        rw [List.getElem?_replicate] at h2
        split at h2 <;> cases h2
    have ha : vs[i]? = some v := by
      unfold start at h2
      rw [List.getElem?_append_left (by simpa using hi), List.getElem?_map] at h2
      cases e : vs[i]? with
      | none => rw [e] at h2; cases h2
      | some a => rw [e] at h2; cases h2; rfl
    obtain ⟨u, hu, rv⟩ := r.get ha
    have hp : ps[i]? = some y := by
      rw [← S.pre, List.getElem?_take_of_lt (by omega)]; exact h1
    have ndP : ps.Nodup := by rw [← S.pre]; exact S.nd.sublist (List.take_sublist _ _)
    refine ⟨u, rv, ?_⟩
    rcases S.par y (List.mem_of_getElem? hp) with k | k
    · exact .inl ⟨k, bindL_get ndP hp hu k⟩
    · obtain ⟨c, e⟩ := cell_has (n := s.heap.objs.size + 1) k
      refine .inr ⟨.inl k, c, e, ?_⟩
      have q := x.cell y c e
      rw [bindC_get ndP hp hu (by show scope.names.lookup y ≠ _; rw [k]; decide)] at q
      exact q
  · exact e0.hok.fresh (Nat.le_of_lt (x.above y c (PySem.mem_of_lookup h)))
  · unfold start
    show _ = N.length
    rw [List.length_append, List.length_map, List.length_replicate]
    omega
theorem fn_of {CX : CXT} {P : Program} {w : World} {K : PySem.W.Frag} {mg : Str → Option Value} {base : Heap} {k : Nat} {f : Addr} {name qual : Str} {params : Arguments} {body : List Stmt} {scope : Scope} {dV kV doc pm cdv ct oc : Value} {an od : Option Addr}
    {osl : Array (Option Value)} {N ps : List Str} {sp : Sp} (lk : K.lookup f = some ⟨oc, od, .func (PySem.W.fnOf name qual params body scope dV kV doc pm an cdv ct), osl⟩) (hcd : PySem.W.codeIn K cdv qual = true) (S : FnScope N ps scope)
    (len : ∀ vs H Q E, sp vs H Q E → vs.length = ps.length)
    (hbody : ∀ (A : Around) (outer : List Env) (s : Shared) (H : Hp) (vs : List V) (Q : VK) (E : XK), Room k (A.deeper (envOfC qual scope s.heap.objs.size f cdv)) → sp vs H Q E →
      ∃ t, PSs (cxOf CX P w K mg base N qual scope f cdv A outer s H E) body t ∧ t { nx := fun _ H' => Q .non H', rt := Q } (start N vs) H) :
    FnOk P w K mg base CX (k + 1) f (PySem.W.fnOf name qual params body scope dV kV doc pm an cdv ct) ps sp := by
  refine ⟨len, fun A outer s H args us vs Q E hr e0 hb r hsp => ?_⟩
  have hl := len _ _ _ _ hsp
  have KX : K.In s.heap := e0.mod.kin.keeps fun b o e => (e0.bs b o e).1
  have lim : s.heap.NoLimit := e0.mod.nolimit.keeps fun b o e => (e0.bs b o e).1
  have hkind : ∀ y ∈ ps.zip us, scope.names.lookup y.1 = some .local ∨ (scope.names.lookup y.1 = some .cell ∧ ((cellsFrom (s.heap.objs.size + 1) scope.names []).lookup y.1).isSome = true) := fun ⟨n, v⟩ hy => by
    rcases S.par n (List.of_mem_zip hy).1 with q | q
    · exact .inl q
    · exact .inr ⟨q, PySem.W.cellsFrom_some _ _ _ (.inl q)⟩
  refine codeAny_call_function hr.depth (KX _ _ lk) rfl S.co S.gen rfl (PySem.W.codeRec_of KX hcd) (hb _ _ _ _ ?_)
  refine wpAny_newFunctionEnv_cells S.kind hkind fun env he s1 x => ?_
  subst he
  refine ⟨lim.keeps x.toInCall.keep, codeAny_func ?_⟩
  obtain ⟨t, ht, hq⟩ := hbody A outer s H vs Q E (hr.deeper _) hsp
  have I : Inv (cxOf CX P w K mg base N qual scope f cdv A outer s H E) [] (start N vs) H s1 := inv_start S hr.hd e0 hl r x
  refine wpAny_mono (ht [] s1 (start N vs) H _ I hq) (fun fl s' hs => ?_) fun e s' hs => hs
  have fin : ∀ {σ' : St} {H' : Hp} {v : V} {u : Value}, Inv (cxOf CX P w K mg base N qual scope f cdv A outer s H E) [] σ' H' s' → RelV v u → Q v H' → CE outer P w H s Q u s' :=
    fun {σ' H' v u} J rv q => ⟨v, H', J.os, J.bare, J.base, J.hok, rv, q⟩
  cases fl with
  | ret u =>
    obtain ⟨v, σ', H', J, rv, q⟩ := hs
    exact fin J rv q
  | next =>
    obtain ⟨σ', H', J, q⟩ := hs
    exact fin (v := V.non) (u := Value.none) J rfl q
  | brk =>
    obtain ⟨_, _, _, q⟩ := hs
    exact False.elim q
  | cont =>
    obtain ⟨_, _, _, q⟩ := hs
    exact False.elim q
end L2
namespace L2
open PySem PySem.Spec PyProof.Rows
section
variable {X : Cx} {x : Str} {p pos : Pos} {e : Expr} {es : List Expr} {t : TA} {id T : String} {r : List V → Hp → VK → Prop}
def tCB (r : List V → Hp → VK → Prop) (t : TA) : TE := fun σ H Q => t σ H fun vs H1 => r vs H1 Q
theorem pe_callB (hc : CallR X (.builtin id) r) (hg : Gl X x) (hm : X.mg x = none) (hv : bootBuiltins x = some (.builtin id)) (ha : PA X (e :: es) t) (hn : x ≠ "__name__" := by decide) (hdb : (x == ("__debug__" : Str)) = false := by decide)
    (he : starEach (e :: es) X.env = (false, eval e X.env) :: starEach es X.env := by rfl) (hpl : (backTo pos (starEach es X.env)).any (·.1) = false := by rfl) : PE X (.Call (.Name x p) (e :: es) [] pos) (tCB r t) := by
  intro pins s σ H Q I h
  refine wpAny_Call_Name_kw (ld_blt I hg hm hv ?_ hn hdb)
  exact PyProof.Rows.callWith_builtin1 (thn (ha pos pins s σ H _ I h) fun us s1 ⟨vs, H1, I1, r1, q1⟩ => hc pins s1 σ H1 vs us Q I1 r1 q1) he hpl
theorem pe_callTy (hc : CallR X (.type T) r) (hg : Gl X x) (hm : X.mg x = none) (hv : bootBuiltins x = some (.type T)) (ha : PA X (e :: es) t) (hn : x ≠ "__name__" := by decide) (hdb : (x == ("__debug__" : Str)) = false := by decide)
    (he : starEach (e :: es) X.env = (false, eval e X.env) :: starEach es X.env := by rfl) (hpl : (backTo pos (starEach es X.env)).any (·.1) = false := by rfl) : PE X (.Call (.Name x p) (e :: es) [] pos) (tCB r t) := by
  intro pins s σ H Q I h
  refine wpAny_Call_Name_kw (ld_blt I hg hm hv ?_ hn hdb)
  exact PyProof.Rows.callWith_type1 (thn (ha pos pins s σ H _ I h) fun us s1 ⟨vs, H1, I1, r1, q1⟩ => hc pins s1 σ H1 vs us Q I1 r1 q1) he hpl
end
end L2
namespace HT
open PySem PyProof.Rows
def lexLt : List Int → List Int → Bool
  | [], [] => false
  | [], _ :: _ => true
  | _ :: _, [] => false
  | x :: xs, y :: ys => if x = y then lexLt xs ys else decide (x < y)
section
open PySem.SeqAt
open PySem.AutoSeq1 (wpAny_loadPart')
open PySem.MeetsSeq PySem.MeetsSeq2 PySem.MeetsSeq3
end
section
variable {prog : Program} {w : World} {A : Around} {E : Value → Shared → Prop} {s : Shared}
def sIx (n d : Nat) : Option Int → Nat
  | none => d
  | some v => if v < 0 then (v + (n : Int)).toNat else min v.toNat n
theorem sIx_none (n d : Nat) : sIx n d none = d := rfl
theorem sIx_nat (n d k : Nat) : sIx n d (some (k : Int)) = min k n := by
  show (if (k : Int) < 0 then ((k : Int) + (n : Int)).toNat else min (k : Int).toNat n) = min k n
  rw [if_neg (by omega), Int.toNat_natCast]
theorem sIx_le (n d : Nat) (hd : d ≤ n) (o : Option Int) : sIx n d o ≤ n := by
  cases o with
  | none => exact hd
  | some v =>
    show (if v < 0 then (v + (n : Int)).toNat else min v.toNat n) ≤ n
    by_cases hv : v < 0
    · rw [if_pos hv]; omega
    · rw [if_neg hv]; exact Nat.min_le_right _ _
end
end HT
namespace L2
open PySem PySem.Spec PyProof.Rows
abbrev TO := St → Hp → (Option Int → Hp → Prop) → Prop
def PO (X : Cx) (e : Option Expr) (t : TO) : Prop :=
  ∀ (pins : List (Addr × Obj)) (s : Shared) (σ : St) (H : Hp) (Q : Option Int → Hp → Prop), Inv X pins σ H s → t σ H Q →
    wpAny (model X.prog X.w) X.A (evalPart e X.env) (fun u s' => ∃ o H', Inv X pins σ H' s' ∧ IsPart u o ∧ Q o H') X.xe s
def tNoPart : TO := fun _ H Q => Q none H
def tPart (t : TE) : TO := fun σ H Q => t σ H fun x H1 => ∃ i, x = .int i ∧ Q (some i) H1
section
variable {X : Cx} {e : Expr} {te : TE} {lo hi : Option Expr} {tl th : TO} {pos p2 : Pos}
theorem po_none : PO X none tNoPart := by
  intro pins s σ H Q I h
  rw [evalPart_none]
  exact wpAny_pure ⟨none, H, I, .none, h⟩
theorem po_some (h : PE X e te) : PO X (some e) (tPart te) := by
  intro pins s σ H Q I hw
  rw [evalPart_some]
  refine thn (h pins s σ H _ I hw) fun u s1 ⟨x, H1, I1, r1, q1⟩ => ?_
  obtain ⟨i, rfl, q⟩ := q1
  obtain ⟨t, rfl⟩ := r1
  exact ⟨some i, H1, I1, .int i t, q⟩
def SlR (X : Cx) (r : V → Option Int → Option Int → Hp → VK → Prop) : Prop :=
  ∀ (pins : List (Addr × Obj)) (s : Shared) (σ : St) (H : Hp) (x : V) (v vl vu : Value) (lo hi : Option Int) (sl : Addr) (Q : VK), Inv X pins σ H s → RelV x v → s.heap.IsSliceOf sl vl vu .none → IsPart vl lo → IsPart vu hi → r x lo hi H Q →
    ∃ T id, typeLookup (.type T) "__getitem__" = pure (some (.builtin id)) ∧ s.TypeIs v T ∧ wpAny (model X.prog X.w) X.A (getItem v (.ref sl)) (EP X pins σ Q) X.xe s
def tSl (r : V → Option Int → Option Int → Hp → VK → Prop) (te : TE) (tl th : TO) : TE := fun σ H Q => te σ H fun x H1 => tl σ H1 fun l H2 => th σ H2 fun u H3 => r x l u H3 Q
theorem pe_slice {r : V → Option Int → Option Int → Hp → VK → Prop} (hr : SlR X r) (he : PE X e te) (hl : PO X lo tl) (hu : PO X hi th) : PE X (.Subscript e (.Slice lo hi none p2) pos) (tSl r te tl th) := by
  intro pins s σ H Q I h
  refine Subscript_ (thn (he pins s σ H _ I h) fun v s1 ⟨x, H1, I1, r1, q1⟩ => ?_)
  refine wpAny_Slice (thn (hl pins s1 σ H1 _ I1 q1) fun vl s2 ⟨l, H2, I2, pl, q2⟩ => thn (hu pins s2 σ H2 _ I2 q2) fun vu s3 ⟨u, H3, I3, pu, q3⟩ => ?_)
  rw [evalPart_none]
  refine wpAny_pure ?_
  have I4 : Inv X pins σ H3 { s3 with heap := s3.heap.push { cls := .type "slice", data := .fields #[vl, vu, .none] } } := I3.kept (t' := s3.toks) fun b ob q => Heap.get?_push_of_some _ q
  obtain ⟨T, id, hT, ht, hg⟩ := hr pins { s3 with heap := s3.heap.push { cls := .type "slice", data := .fields #[vl, vu, .none] } } σ H3 x v vl vu l u s3.heap.objs.size Q I4 r1 (Heap.IsSliceOf.new ..) pl pu q3
  show wpAny (model X.prog X.w) X.A (subscriptTail e (.Slice lo hi none p2) v (.ref s3.heap.objs.size)) (EP X pins σ Q) X.xe { s3 with heap := s3.heap.push { cls := .type "slice", data := .fields #[vl, vu, .none] } }
  exact tail_any (ops := [.ref s3.heap.objs.size, v]) ht hT hg (by with_unfolding_all rfl)
def cutV (xs : List V) (lo hi : Option Int) : List V := (xs.drop (HT.sIx xs.length 0 lo)).take (HT.sIx xs.length xs.length hi - HT.sIx xs.length 0 lo)
theorem cutV_length (xs : List V) (lo hi : Option Int) : (cutV xs lo hi).length ≤ xs.length := by
  unfold cutV
  rw [List.length_take, List.length_drop]
  omega
def rSlT (K : PySem.W.Frag) : V → Option Int → Option Int → Hp → VK → Prop := fun x lo hi H Q => ∃ a xs, x = .ref a ∧ SqT K H a xs ∧
  ¬ (HT.sIx xs.length 0 lo = 0 ∧ HT.sIx xs.length xs.length hi = xs.length) ∧ ∀ p, H p = none → Q (.ref p) (upd H p (.tup (cutV xs lo hi)))
def rLtT (K : PySem.W.Frag) : R2 := fun x y H Q => ∃ a b ns ms, x = .ref a ∧ y = .ref b ∧ SqT K H a (ns.map V.int) ∧ SqT K H b (ms.map V.int) ∧ Q (.bl (HT.lexLt ns ms)) H
def rCatT (K : PySem.W.Frag) : R2 := fun x y H Q => ∃ a b xs ys, x = .ref a ∧ y = .ref b ∧ SqT K H a xs ∧ SqT K H b ys ∧ xs ≠ [] ∧ xs.length + ys.length ≤ sizeLine ∧
  (ys = [] → Q (.ref a) H) ∧ (ys ≠ [] → ∀ p, H p = none → Q (.ref p) (upd H p (.tup (xs ++ ys))))
end
end L2
namespace L2
open PySem PySem.Spec PyProof.Rows
def ixN (n : Nat) (i : Int) : Option Nat := if 0 ≤ i then (if i < n then some i.toNat else none) else if -(n : Int) ≤ i then some (i + n).toNat else none
def atI {α : Type} (xs : List α) (i : Int) : Option α := (ixN xs.length i).bind fun j => xs[j]?
theorem ixN_seq {n : Nat} {i : Int} {j : Nat} (h : ixN n i = some j) : seqIndex? i n = some j ∧ j < n ∧ -(n : Int) ≤ i ∧ i < n := by
  unfold ixN at h
  by_cases h0 : 0 ≤ i
  · rw [if_pos h0] at h
    by_cases h1 : i < n
    · rw [if_pos h1] at h
      have e : i.toNat = j := Option.some.inj h
      exact ⟨by rw [seqIndex_of h0 h1, e], by omega, by omega, h1⟩
    · rw [if_neg h1] at h; cases h
  · rw [if_neg h0] at h
    by_cases h1 : -(n : Int) ≤ i
    · rw [if_pos h1] at h
      have e : (i + n).toNat = j := Option.some.inj h
      exact ⟨by rw [seqIndex_neg (by omega) h1, e], by omega, h1, by omega⟩
    · rw [if_neg h1] at h; cases h
theorem atI_get {α : Type} {xs : List α} {i : Int} {v : α} (h : atI xs i = some v) : ∃ j, seqIndex? i xs.length = some j ∧ xs[j]? = some v ∧ j < xs.length ∧ -(xs.length : Int) ≤ i ∧ i < xs.length := by
  unfold atI at h
  cases e : ixN xs.length i with
  | none => rw [e] at h; cases h
  | some j =>
    rw [e] at h
    obtain ⟨h1, h2, h3, h4⟩ := ixN_seq e
    exact ⟨j, h1, h, h2, h3, h4⟩
theorem atI_nat {α : Type} {xs : List α} {j : Nat} {v : α} (h : xs[j]? = some v) : atI xs (j : Int) = some v := by
  have hj : j < xs.length := (List.getElem?_eq_some_iff.mp h).1
  have e : ixN xs.length (j : Int) = some j := by
    unfold ixN
    rw [if_pos (by omega), if_pos (by omega)]; simp
  unfold atI; rw [e]; exact h
def PlainIx (b : Expr) : Prop := ∀ o i, subscripted b false o i = operate [o, i] (getItem o i)
def IxR (X : Cx) (r : R2) : Prop :=
  ∀ (value slice : Expr) (pins : List (Addr × Obj)) (s : Shared) (σ : St) (H : Hp) (x y : V) (v u : Value) (Q : VK), Inv X pins σ H s → RelV x v → RelV y u → r x y H Q →
    subscripted slice false v u = operate [v, u] (getItem v u) → wpAny (model X.prog X.w) X.A (subscriptTail value slice v u) (EP X pins σ Q) X.xe s
def MtR (X : Cx) (id : String) (r : V → List V → Hp → VK → Prop) : Prop :=
  ∀ (pins : List (Addr × Obj)) (s : Shared) (σ : St) (H : Hp) (x : V) (xs : List V) (v : Value) (us : List Value) (Q : VK), Inv X pins σ H s → RelV x v → Vals xs us → r x xs H Q →
    wpAny (model X.prog X.w) X.A (call (.builtin id) (v :: us)) (EP X pins σ Q) X.xe s
section
variable {X : Cx} {a b : Expr} {ta tb : TE} {pos : Pos}
theorem pe_ix {r : R2} (hr : IxR X r) (ha : PE X a ta) (hb : PE X b tb) (hs : PlainIx b) : PE X (.Subscript a b pos) (tOp r ta tb) := by
  intro pins s σ H Q I h
  exact Subscript_ (binT ha hb I h fun v u s2 x y H2 I2 rx ry q => hr a b pins s2 σ H2 x y v u Q I2 rx ry q (hs _ _))
def rIxL (K : PySem.W.Frag) : R2 := fun x y H Q => ∃ p xs i v, x = .ref p ∧ y = .int i ∧ SqL K H p xs ∧ atI xs i = some v ∧ Q v H
def rIxT (K : PySem.W.Frag) : R2 := fun x y H Q => ∃ p xs i v, x = .ref p ∧ y = .int i ∧ SqT K H p xs ∧ atI xs i = some v ∧ Q v H
def rIxS : R2 := fun x y H Q => ∃ z i c, x = .str z ∧ y = .int i ∧ z.length ≤ sizeLine ∧ atI z.cps.toList i = some c ∧ Q (.str ⟨#[c]⟩) H
theorem ix_list : IxR X (rIxL X.K) := by
  intro value slice pins s σ H x y v u Q I rx ry h hs
  obtain ⟨p, xs, i, z, rfl, rfl, hq, he, q⟩ := h
  cases rx
  obtain ⟨t, rfl⟩ := ry
  obtain ⟨its, r, pl, hz⟩ := I.list hq
  obtain ⟨j, h1, h2, h3, h4, h5⟩ := atI_get he
  obtain ⟨w, ew, rw'⟩ := r.get h2
  have hl := r.length
  have hn := line63
  have fin : EP X pins σ Q w s := ⟨z, H, I, rw', q⟩
  by_cases h0 : 0 ≤ i
  · have hj : i.toNat = j := by
      rw [seqIndex_of h0 h5] at h1
      exact Option.some.inj h1
    exact item_listR pl.isList h0 (by omega) (by rw [hj]; simpa using ew) fin hs
  · have hj : (i + (its.toArray.size : Int)).toNat = j := by
      rw [seqIndex_neg (by omega) h4] at h1
      rw [List.size_toArray, ← hl]
      exact Option.some.inj h1
    exact subscriptTail_builtinR (x := w) pl.isList.typeIs slot_list_getitem.lookup
      (wpAny_getItem_list_neg (Q := fun r s' => r = w ∧ EP X pins σ Q r s') pl.isList (by omega) (by rw [List.size_toArray] <;> omega) (by omega) (by rw [hj]; simpa using ew) ⟨rfl, fin⟩) hs
theorem ix_tup : IxR X (rIxT X.K) := by
  intro value slice pins s σ H x y v u Q I rx ry h hs
  obtain ⟨p, xs, i, z, rfl, rfl, hq, he, q⟩ := h
  cases rx
  obtain ⟨t, rfl⟩ := ry
  obtain ⟨its, r, pl, hz⟩ := I.tuple hq
  obtain ⟨j, h1, h2, h3, h4, h5⟩ := atI_get he
  obtain ⟨w, ew, rw'⟩ := r.get h2
  have hl := r.length
  have hn := line63
  have fin : EP X pins σ Q w s := ⟨z, H, I, rw', q⟩
  exact subscriptTail_builtinR (x := w) pl.typeIs slot_tuple_getitem.lookup
    (getItem_tuple (j := j) (Q := fun r s' => r = w ∧ EP X pins σ Q r s') pl (by omega) (by omega) (by rw [List.size_toArray, ← hl]; exact h1) (by simpa using ew) ⟨rfl, fin⟩) hs
theorem ix_str : IxR X rIxS := by
  intro value slice pins s σ H x y v u Q I rx ry h hs
  obtain ⟨z, i, c, rfl, rfl, hz, he, q⟩ := h
  obtain ⟨t, rfl⟩ := rx
  obtain ⟨t', rfl⟩ := ry
  obtain ⟨j, h1, h2, h3, h4, h5⟩ := atI_get he
  have hl : z.cps.toList.length = z.length := by simp [Str.length]
  rw [hl] at h1 h4 h5
  have hn := line63
  exact tail_any (typeIs_str s z t) slot_str_getitem.lookup (getItem_str (c := c) (by
    have e1 : decide (i < -(2 ^ 63 : Int)) = false := decide_eq_false (by omega)
    have e2 : decide (i ≥ 2 ^ 63) = false := decide_eq_false (by omega)
    rw [e1, e2, Bool.or_false]) (by rw [h1]; simpa using h2) ⟨.str ⟨#[c]⟩, H, I.tok _, ⟨_, rfl⟩, q⟩) hs
def rIx (K : PySem.W.Frag) : R2 := fun x y H Q => rIxL K x y H Q ∨ rIxT K x y H Q ∨ rIxS x y H Q
def rSetL : V → V → V → Hp → (Hp → Prop) → Prop := fun o i v H Q => ∃ p xs k j, o = .ref p ∧ i = .int k ∧ H p = some (.lst xs) ∧ ixN xs.length k = some j ∧ Q (upd H p (.lst (xs.set j v)))
theorem slice_bounds (lo hi : Option Int) (n : Nat) : (sliceBounds lo hi none n).1 = ((HT.sIx n 0 lo : Nat) : Int) ∧ (sliceBounds lo hi none n).2.1 = ((HT.sIx n n hi : Nat) : Int) ∧ (sliceBounds lo hi none n).2.2 = 1 := by
  refine ⟨?_, ?_, rfl⟩
  · cases lo with
    | none => simp [sliceBounds, HT.sIx]
    | some i =>
      simp only [sliceBounds, HT.sIx, Option.getD_none, show (1 : Int) > 0 by decide, if_true]
      by_cases h : i < 0
      · simp only [h, if_true] <;> omega
      · simp only [h, if_false] <;> omega
  · cases hi with
    | none => simp [sliceBounds, HT.sIx]
    | some i =>
      simp only [sliceBounds, HT.sIx, Option.getD_none, show (1 : Int) > 0 by decide, if_true]
      by_cases h : i < 0
      · simp only [h, if_true] <;> omega
      · simp only [h, if_false] <;> omega
theorem slicePick_cut (its : List Value) (lo hi : Option Int) : slicePick its.toArray lo hi none = ((its.drop (HT.sIx its.length 0 lo)).take (HT.sIx its.length its.length hi - HT.sIx its.length 0 lo)).toArray := by
  obtain ⟨h1, h2, h3⟩ := slice_bounds lo hi its.toArray.size
  unfold slicePick
  rw [h1, h2, h3]
  simp only [sliceRange_one, pick_run, List.size_toArray] <;> rfl
def rSlL (K : PySem.W.Frag) : V → Option Int → Option Int → Hp → VK → Prop := fun x lo hi H Q => ∃ a xs, x = .ref a ∧ SqL K H a xs ∧ ∀ p, H p = none → Q (.ref p) (upd H p (.lst (cutV xs lo hi)))
theorem sl_list : SlR X (rSlL X.K) := by
  intro pins s σ H x v vl vu lo hi sl Q I rx hs pl pu h
  obtain ⟨a, xs, rfl, hx, q⟩ := h
  cases rx
  obtain ⟨its, r, ht, hz⟩ := I.list hx
  have hlen := r.length
  refine ⟨"list", _, slot_list_getitem.lookup, ht.isList.typeIs, ?_⟩
  refine wpAny_getItem_list_slice ht.isList hs pl pu .none (by simp) ?_ (by rw [List.size_toArray] <;> omega)
  rw [slicePick_cut, ← hlen]
  refine ⟨.ref s.heap.objs.size, _, I.laid (t' := s.toks) (o := .lst (cutV xs lo hi)) (fun b ob q => Heap.get?_push_of_some _ q) (Nat.le_refl _) ?_, rfl, q _ (I.hok.fresh (Nat.le_refl _))⟩
  exact ⟨Nat.le_trans (cutV_length xs lo hi) hz, _, 0, (r.drop (HT.sIx xs.length 0 lo)).take (HT.sIx xs.length xs.length hi - HT.sIx xs.length 0 lo), Heap.get?_push_size _ rfl⟩
def flatV : V → Bool
  | .non => true
  | .bl _ => true
  | .int _ => true
  | .str _ => true
  | _ => false
def eqV : V → V → Bool
  | .non, .non => true
  | .bl a, .bl b => a == b
  | .bl a, .int b => (if a then 1 else 0) == b
  | .int a, .bl b => a == (if b then 1 else 0)
  | .int a, .int b => a == b
  | .str a, .str b => a == b
  | _, _ => false
theorem eqAt_V {A : Around} {s : Shared} {y x : V} {u v : Value} (ry : RelV y u) (rx : RelV x v) (fy : flatV y = true) (fx : flatV x = true) : SeqAt.EqAt A s u v (eqV y x) := by
  cases y with
  | non =>
    cases ry
    cases x with
    | non => cases rx; exact SeqAt.EqAt.same _
    | bl b => cases rx; exact SeqAt.EqAt.none_bool b
    | int b => obtain ⟨t, rfl⟩ := rx; exact SeqAt.EqAt.none_int b t
    | str b => obtain ⟨t, rfl⟩ := rx; exact SeqAt.EqAt.none_str b t
    | _ => exact absurd (show false = true from fx) Bool.false_ne_true
  | bl a =>
    cases ry
    cases x with
    | non => cases rx; exact SeqAt.EqAt.bool_none a
    | bl b => cases rx; exact SeqAt.EqAt.bool_bool a b
    | int b => obtain ⟨t, rfl⟩ := rx; exact SeqAt.EqAt.bool_int a b t
    | str b => obtain ⟨t, rfl⟩ := rx; exact SeqAt.EqAt.bool_str a b t
    | _ => exact absurd (show false = true from fx) Bool.false_ne_true
  | int a =>
    obtain ⟨t', rfl⟩ := ry
    cases x with
    | non => cases rx; exact SeqAt.EqAt.int_none a t'
    | bl b => cases rx; exact SeqAt.EqAt.int_bool a t' b
    | int b => obtain ⟨t, rfl⟩ := rx; exact SeqAt.EqAt.int_int a t' b t
    | str b => obtain ⟨t, rfl⟩ := rx; exact SeqAt.EqAt.int_str a t' b t
    | _ => exact absurd (show false = true from fx) Bool.false_ne_true
  | str a =>
    obtain ⟨t', rfl⟩ := ry
    cases x with
    | non => cases rx; exact SeqAt.EqAt.str_none a t'
    | bl b => cases rx; exact SeqAt.EqAt.str_bool a t' b
    | int b => obtain ⟨t, rfl⟩ := rx; exact SeqAt.EqAt.str_int a t' b t
    | str b => obtain ⟨t, rfl⟩ := rx; exact SeqAt.EqAt.str_str a t' b t
    | _ => exact absurd (show false = true from fx) Bool.false_ne_true
  | _ => exact absurd (show false = true from fy) Bool.false_ne_true
def eqU (x : V) (u : Value) : Bool := match u with
  | .none => eqV .non x
  | .bool b => eqV (.bl b) x
  | .int i _ => eqV (.int i) x
  | .str z _ => eqV (.str z) x
  | _ => false
theorem eqU_of {x y : V} {u : Value} (r : RelV y u) (f : flatV y = true) : eqU x u = eqV y x := by
  cases y with
  | non => cases r; rfl
  | bl b => cases r; rfl
  | int i => obtain ⟨t, rfl⟩ := r; rfl
  | str z => obtain ⟨t, rfl⟩ := r; rfl
  | _ => exact absurd (show false = true from f) Bool.false_ne_true
theorem any_eqU {x : V} : ∀ {xs : List V} {us : List Value}, Vals xs us → xs.all flatV = true → us.any (eqU x) = xs.any fun y => eqV y x
  | _, _, .nil, _ => rfl
  | y :: xs, u :: us, .cons r t, f => by
    rw [List.all_cons, Bool.and_eq_true] at f
    rw [List.any_cons, List.any_cons, eqU_of r f.1, any_eqU t f.2]
theorem mem_eqAt {A : Around} {s : Shared} {x : V} {v : Value} (rx : RelV x v) (fx : flatV x = true) : ∀ {xs : List V} {us : List Value}, Vals xs us → xs.all flatV = true → ∀ u ∈ us, SeqAt.EqAt A s u v (eqU x u)
  | _, _, .nil, _ => fun u hu => by cases hu
  | y :: xs, u :: us, .cons r t, f => fun u' hu => by
    rw [List.all_cons, Bool.and_eq_true] at f
    rcases List.mem_cons.mp hu with rfl | hu
    · rw [eqU_of r f.1]; exact eqAt_V r rx f.1 fx
    · exact mem_eqAt rx fx t f.2 u' hu
def inV (x : V) (xs : List V) : Bool := xs.any fun y => eqV y x
def rIn (K : PySem.W.Frag) (neg : Bool) : R2 := fun x y H Q => ∃ p xs, y = .ref p ∧ (SqL K H p xs ∨ SqT K H p xs) ∧ flatV x = true ∧ xs.all flatV = true ∧ Q (.bl (if neg then !inV x xs else inV x xs)) H
theorem op_notIn_seq : OpR X (compareOp .NotIn) (rIn X.K true) := by
  intro pins s σ H x y v u Q I rx ry h
  obtain ⟨p, xs, rfl, hq, fx, fs, q⟩ := h
  cases ry
  rcases hq with hq | hq
  · obtain ⟨its, r, pl, hz⟩ := I.list hq
    refine SeqAt.notIn_listAt (eqU x) pl.isList (fun w hw => mem_eqAt rx fx r fs w (by simpa using hw)) ⟨.bl _, H, I, rfl, ?_⟩
    rw [show its.toArray.any (eqU x) = its.any (eqU x) by simp, any_eqU r fs]
    exact q
  · obtain ⟨its, r, pl, hz⟩ := I.tuple hq
    refine SeqAt.notIn_tupleAt (eqU x) pl (fun w hw => mem_eqAt rx fx r fs w (by simpa using hw)) ⟨.bl _, H, I, rfl, ?_⟩
    rw [show its.toArray.any (eqU x) = its.any (eqU x) by simp, any_eqU r fs]
    exact q
theorem call_len_seq : CallR X (.builtin "len") (fun xs H Q => ∃ p ys, xs = [.ref p] ∧ (SqL X.K H p ys ∨ SqT X.K H p ys) ∧ Q (.int ys.length) H) := by
  intro pins s σ H xs us Q I r h
  obtain ⟨p, ys, rfl, hq, q⟩ := h
  obtain ⟨u, rfl, rx⟩ := vals1 r
  cases rx
  have hn := line63
  rcases hq with hq | hq
  · obtain ⟨its, r', pl, hz⟩ := I.list hq
    have hlen := r'.length
    exact Calls.call_len_list pl.isList (by simp only [List.size_toArray] <;> omega) ⟨.int ys.length, H, I.tok _, ⟨s.toks + 1, by rw [List.size_toArray, hlen]⟩, q⟩
  · obtain ⟨its, r', pl, hz⟩ := I.tuple hq
    have hlen := r'.length
    exact len_tuple pl (by simp only [List.size_toArray] <;> omega) ⟨.int ys.length, H, I.tok _, ⟨s.toks + 1, by rw [List.size_toArray, hlen]⟩, q⟩
theorem call_len_str : CallR X (.builtin "len") (fun xs H Q => ∃ z, xs = [.str z] ∧ z.length ≤ sizeLine ∧ Q (.int z.length) H) := by
  intro pins s σ H xs us Q I r h
  obtain ⟨z, rfl, hz, q⟩ := h
  obtain ⟨u, rfl, t, rfl⟩ := vals1 r
  have hn := line63
  exact len_str (by omega) ⟨.int z.length, H, I.tok _, ⟨_, rfl⟩, q⟩
def tyV (K : PySem.W.Frag) (T : String) (x : V) (H : Hp) : Prop := match x with
  | .str _ => T = "str"
  | .int _ => T = "int"
  | .ref p => (T = "list" ∧ ∃ xs, SqL K H p xs) ∨ (T = "tuple" ∧ ∃ o, K.lookup p = some o ∧ o.cls = .type "tuple" ∧ o.dict = none) ∨
      (T = "dict" ∧ ((∃ kvs, H p = some (.dK kvs)) ∨ ∃ kvs, H p = some (.dT kvs))) ∨ (T = "set" ∧ ∃ S n, H p = some (.set S n))
  | _ => False
theorem tyV_is {pins : List (Addr × Obj)} {σ : St} {H : Hp} {s : Shared} {T : String} {x : V} {v : Value} (I : Inv X pins σ H s) (r : RelV x v) (ty : tyV X.K T x H) :
    s.TypeIs v T ∧ ∀ a, v = .ref a → ∃ ob, s.heap.get? a = some ob ∧ ob.dict = none := by
  cases x with
  | str z =>
    obtain ⟨t, rfl⟩ := r
    cases (show T = "str" from ty)
    exact ⟨typeIs_str s z t, fun _ e => nomatch e⟩
  | int i =>
    obtain ⟨t, rfl⟩ := r
    cases (show T = "int" from ty)
    exact ⟨typeIs_int s i t, fun _ e => nomatch e⟩
  | ref p =>
    cases r
    rcases ty with ⟨rfl, xs, hq⟩ | ⟨rfl, o, hk, hc, hd⟩ | ⟨rfl, hk⟩ | ⟨rfl, S, n, hk⟩
    · obtain ⟨its, _, pl, _⟩ := I.list hq
      refine ⟨pl.isList.typeIs, fun a e => ?_⟩
      cases e
      obtain ⟨o, n, e, c, hd, _⟩ := pl
      exact ⟨o, e, hd⟩
    · refine ⟨⟨o, I.kIn p o hk, hc⟩, fun a e => ?_⟩
      cases e
      exact ⟨o, I.kIn _ o hk, hd⟩
    · have z : ∃ o, s.heap.get? p = some o ∧ o.ExactDict := by
        rcases hk with ⟨kvs, hk⟩ | ⟨kvs, hk⟩
        · obtain ⟨_, _, _, _, o, _, _, e, ex, _⟩ := I.hok p _ hk
          exact ⟨o, e, ex⟩
        · obtain ⟨_, _, _, _, o, _, _, e, ex, _⟩ := I.hok p _ hk
          exact ⟨o, e, ex⟩
      obtain ⟨o, e, ex⟩ := z
      refine ⟨⟨o, e, ex.1⟩, fun a e2 => ?_⟩
      cases e2
      exact ⟨o, e, ex.2.1⟩
    · obtain ⟨o, _, _, _, e, ex, _⟩ := I.hok p _ hk
      refine ⟨⟨o, e, ex.1⟩, fun a e2 => ?_⟩
      cases e2
      exact ⟨o, e, ex.2.1⟩
  | _ => exact False.elim ty
def tBM0 (K : PySem.W.Frag) (T : String) (r : V → List V → Hp → VK → Prop) (to : TE) : TE := fun σ H Q => to σ H fun x H1 => tyV K T x H1 ∧ r x [] H1 Q
def tBM (K : PySem.W.Frag) (T : String) (r : V → List V → Hp → VK → Prop) (to : TE) (t : TA) : TE := fun σ H Q => to σ H fun x H1 => tyV K T x H1 ∧ t σ H1 fun xs H2 => r x xs H2 Q
variable {o e : Expr} {es : List Expr} {to : TE} {t : TA} {name : Str} {apos cpos : Pos} {T id : String} {r : V → List V → Hp → VK → Prop}
theorem pe_bm0 (pa : PlainAttrs T) (slot : Slot T name id) (hty : typeOf (.builtin id) = pure (.type "method_descriptor")) (hm : MtR X id r) (ho : PE X o to)
    (hbase : attributeBase o name X.env (eval o X.env) = eval o X.env := by rfl) (hline : (apos.endLine == cpos.line) = true := by rfl) : PE X (.Call (.Attribute o name apos) [] [] cpos) (tBM0 X.K T r to) := by
  intro pins s σ H Q I h
  refine wpAny_Call_method0_late hbase hline (thn (ho pins s σ H _ I h) fun v s1 ⟨x, H1, I1, r1, ty, q1⟩ => ?_)
  obtain ⟨h1, h2⟩ := tyV_is I1 r1 ty
  exact ⟨T, id, pa, slot, hty, h1, h2, Calls.callWith_builtin rfl (PySem.evalArgs_none (hm pins s1 σ H1 x [] v [] Q I1 r1 .nil q1))⟩
theorem pe_bm (pa : PlainAttrs T) (slot : Slot T name id) (hty : typeOf (.builtin id) = pure (.type "method_descriptor")) (hm : MtR X id r) (ho : PE X o to) (ha : PA X (e :: es) t)
    (hbase : attributeBase o name X.env (eval o X.env) = eval o X.env := by rfl)
    (hfew : ((backTo cpos (starEach (e :: es) X.env)).all (fun x => !x.1) && (backToKw cpos (keywordEach [] X.env)).all (fun x => x.1.isSome)
      && decide ((e :: es).length + ([] : List Keyword).length + (if ([] : List Keyword).isEmpty then 0 else 1) < 30)) = true := by rfl)
    (hline : (apos.endLine == cpos.line) = true := by rfl) (hs : starEach (e :: es) X.env = (false, eval e X.env) :: starEach es X.env := by rfl) (hplain : (backTo cpos (starEach es X.env)).any (·.1) = false := by rfl) :
    PE X (.Call (.Attribute o name apos) (e :: es) [] cpos) (tBM X.K T r to t) := by
  intro pins s σ H Q I h
  refine wpAny_Call_method_late hbase hfew hline rfl (thn (ho pins s σ H _ I h) fun v s1 ⟨x, H1, I1, r1, ty, q1⟩ => ?_)
  obtain ⟨h1, h2⟩ := tyV_is I1 r1 ty
  refine ⟨T, id, pa, slot, hty, h1, h2, ?_⟩
  have hA := ha cpos pins s1 σ H1 _ I1 q1
  rw [hs] at hA ⊢
  refine Calls.callWith_builtin (by show (false || (backTo cpos (starEach es X.env)).any (·.1)) = false; rw [hplain] <;> rfl) (Calls.evalArgs_plain ?_)
  exact thn hA fun us s2 ⟨vs, H2, I2, r2, q2⟩ => hm pins s2 σ H2 x vs v us Q I2 r1 r2 q2
/- xs.append(e), list.index on a module's tuple .. are MtR facts of 06m -/
end
end L2
namespace L2
open PySem PySem.Spec PyProof.Rows
def MtM (X : Cx) (id : String) (r : V → List V → Hp → VK → Prop) : Prop :=
  ∀ (pins : List (Addr × Obj)) (s : Shared) (σ : St) (H : Hp) (x : V) (xs : List V) (v : Value) (us : List Value) (Q : VK), Inv X pins σ H s → RelV x v → Vals xs us → r x xs H Q →
    wpAny (model X.prog X.w) X.A (call (.builtin id) (v :: us)) (EP X pins σ Q) X.xe s
theorem Vals.one : ∀ {x : V} {us : List Value}, Vals [x] us → ∃ u, us = [u] ∧ RelV x u
  | _, _, .cons r .nil => ⟨_, rfl, r⟩
theorem Vals.zero : ∀ {us : List Value}, Vals [] us → us = []
  | _, .nil => rfl
theorem Vals.dropLast {xs : List V} {us : List Value} (h : Vals xs us) : Vals xs.dropLast us.dropLast := by
  induction h with
  | nil => exact .nil
  | cons r t ih =>
    cases t with
    | nil => exact .nil
    | cons q t' => exact .cons r ih
theorem erase_last {α : Type} (l : List α) : l.eraseIdx (l.length - 1) = l.dropLast := by
  induction l with
  | nil => rfl
  | cons a r ih =>
    cases r with
    | nil => rfl
    | cons b r =>
      have e : (a :: b :: r).length - 1 = ((b :: r).length - 1) + 1 := by
        have h1 : (a :: b :: r).length = r.length + 2 := rfl
        have h2 : (b :: r).length = r.length + 1 := rfl
        omega
      rw [e, List.eraseIdx_cons_succ, ih]
      all_goals rfl
section
variable {X : Cx} {pins : List (Addr × Obj)} {σ : St} {H : Hp} {s : Shared} {l b : Addr} {xs ys zs : List V}
theorem Inv.lset {its its' : List Value} {n : Nat} {f : Array Value → Array Value} {t' : Nat} (I : Inv X pins σ H s) (hH : H l = some (.lst xs))
    (e : s.heap.get? l = some { cls := .type "list", data := .seq its.toArray n }) (hf : f its.toArray = its'.toArray) (hv : Vals ys its') (hz : ys.length ≤ sizeLine) :
    Inv X pins σ (upd H l (.lst ys)) { s with heap := s.heap.update l (Obj.mapSeq f), toks := t' } := by
  have q := PySem.IsL.update e f
  rw [hf] at q
  refine I.write (x := l) (e := l) (by rw [hH]; exact trivial) (.inl rfl) (fun b' u hb hu => (Heap.get?_update_other s.heap (Obj.mapSeq f) (Ne.symm hb)).trans hu) ⟨_, q⟩ ?_
  exact ⟨hz, its', _, hv, q⟩
theorem Inv.lnew {its : List Value} {t' : Nat} (I : Inv X pins σ H s) (hv : Vals ys its) (hz : ys.length ≤ sizeLine) :
    Inv X pins σ (upd H s.heap.objs.size (.lst ys)) { s with heap := s.heap.push { cls := .type "list", data := .seq its.toArray }, toks := t' } :=
  I.laid (fun _ _ q => Heap.get?_push_of_some _ q) (Nat.le_refl _) ⟨hz, its, 0, hv, Heap.get?_push_size _ rfl⟩
theorem Inv.fresh (I : Inv X pins σ H s) : H s.heap.objs.size = none := I.hok.fresh (Nat.le_refl _)
theorem Inv.lstM (I : Inv X pins σ H s) (hH : H l = some (.lst xs)) : xs.length ≤ sizeLine ∧ ∃ (its : List Value) (n : Nat), Vals xs its ∧ xs.length = its.length ∧ s.heap.get? l = some { cls := .type "list", data := .seq its.toArray n } := by
  obtain ⟨z, its, n, r, e⟩ := I.hok l _ hH
  exact ⟨z, its, n, r, r.length, e⟩
theorem notLongL {n : Nat} (h : n ≤ sizeLine) : Builtin.List.listTooLong n = false := by
  unfold Builtin.List.listTooLong
  exact decide_eq_false (by omega)
end
section
variable {X : Cx}
def rAppend : V → List V → Hp → VK → Prop := fun x vs H Q => ∃ l xs y, x = .ref l ∧ vs = [y] ∧ H l = some (.lst xs) ∧ xs.length < sizeLine ∧ Q .non (upd H l (.lst (xs ++ [y])))
theorem mt_append : MtM X "list.append" rAppend := by
  intro pins s σ H x vs v us Q I rx rv h
  obtain ⟨l, xs, y, rfl, rfl, hH, hz, q⟩ := h
  cases rx
  obtain ⟨u, rfl, ru⟩ := rv.one
  obtain ⟨z, its, n, r, hl, e⟩ := I.lstM hH
  refine call_meets F.slot_list_append ⟨_, e, rfl⟩ F.entry_list_append (F.args_list_append_2 _ _) (PySem.list_append l its.toArray n u (by rw [List.size_toArray]; omega)) ⟨e, ?_⟩
  refine ⟨.non, _, I.lset (its' := its ++ [u]) hH e (by simp) (r.append (.cons ru .nil)) ?_, rfl, q⟩
  rw [List.length_append, List.length_singleton]
  omega
def rExtend : V → List V → Hp → VK → Prop := fun x vs H Q => ∃ l b xs zs, x = .ref l ∧ vs = [.ref b] ∧ H l = some (.lst xs) ∧ H b = some (.lst zs) ∧ xs.length + zs.length ≤ sizeLine ∧ Q .non (upd H l (.lst (xs ++ zs)))
theorem mt_extend : MtM X "list.extend" rExtend := by
  intro pins s σ H x vs v us Q I rx rv h
  obtain ⟨l, b, xs, zs, rfl, rfl, hH, hB, hz, q⟩ := h
  cases rx
  obtain ⟨u, rfl, ru⟩ := rv.one
  cases ru
  obtain ⟨z, its, n, r, hl, e⟩ := I.lstM hH
  obtain ⟨z2, its2, n2, r2, hl2, e2⟩ := I.lstM hB
  have hsz : its.toArray.size + its2.toArray.size ≤ sizeLine := by rw [List.size_toArray, List.size_toArray]; omega
  have hlong : ¬ (!its.toArray.isEmpty && Builtin.List.listTooLong (its.toArray.size + its2.toArray.size)) = true := by
    rw [notLongL hsz, Bool.and_false]
    exact Bool.false_ne_true
  refine call_meets F.slot_list_extend ⟨_, e, rfl⟩ F.entry_list_extend (F.args_list_extend_2 _ _)
    (AutoSeq1.list_extend_list_list_0 l its.toArray n b its2.toArray n2 hlong (by rw [List.size_toArray]; omega) (by omega)) ⟨e, e2, ?_⟩
  refine ⟨.non, _, I.lset (its' := its ++ its2) hH e (by simp) (r.append r2) ?_, rfl, q⟩
  rw [List.length_append]
  omega
def rPop : V → List V → Hp → VK → Prop := fun x vs H Q => ∃ l xs y, x = .ref l ∧ vs = [] ∧ H l = some (.lst xs) ∧ xs[xs.length - 1]? = some y ∧ Q y (upd H l (.lst xs.dropLast))
theorem mt_pop : MtM X "list.pop" rPop := by
  intro pins s σ H x vs v us Q I rx rv h
  obtain ⟨l, xs, y, rfl, rfl, hH, hy, q⟩ := h
  cases rx
  have hus := rv.zero
  subst hus
  obtain ⟨z, its, n, r, hl, e⟩ := I.lstM hH
  obtain ⟨u, hu, ru⟩ := r.get hy
  have hy' : its.toArray[its.toArray.size - 1]? = some u := by
    show its.toArray[its.length - 1]? = some u
    rw [← Array.getElem?_toList, ← hl]
    exact hu
  refine call_meets F.slot_list_pop ⟨_, e, rfl⟩ F.entry_list_pop (F.args_list_pop_1 _) (MeetsSeq.list_pop_last l its.toArray n u hy' (by rw [List.size_toArray]; omega)) ⟨e, ?_⟩
  refine ⟨y, _, I.lset (its' := its.dropLast) hH e ?_ r.dropLast ?_, ru, q⟩
  · show its.toArray.eraseIdxIfInBounds (its.toArray.size - 1) = its.dropLast.toArray
    rw [List.size_toArray, List.eraseIdxIfInBounds_toArray, erase_last]
  · rw [List.length_dropLast]
    omega
def rPopAt : V → List V → Hp → VK → Prop := fun x vs H Q => ∃ l xs i k y, x = .ref l ∧ vs = [.int i] ∧ H l = some (.lst xs) ∧ -(2 ^ 63) ≤ i ∧ i < 2 ^ 63 ∧ seqIndex? i xs.length = some k ∧ xs[k]? = some y ∧ Q y (upd H l (.lst (xs.eraseIdx k)))
def rReverse : V → List V → Hp → VK → Prop := fun x vs H Q => ∃ l xs, x = .ref l ∧ vs = [] ∧ H l = some (.lst xs) ∧ Q .non (upd H l (.lst xs.reverse))
def rClear : V → List V → Hp → VK → Prop := fun x vs H Q => ∃ l xs, x = .ref l ∧ vs = [] ∧ H l = some (.lst xs) ∧ Q .non (upd H l (.lst []))
def rCat : R2 := fun x y H Q => ∃ l b xs zs, x = .ref l ∧ y = .ref b ∧ H l = some (.lst xs) ∧ H b = some (.lst zs) ∧ xs.length + zs.length ≤ sizeLine ∧ ∀ p, H p = none → Q (.ref p) (upd H p (.lst (xs ++ zs)))
theorem op_cat : OpR X (binaryOp .Add) rCat := by
  intro pins s σ H x y v u Q I rx ry h
  obtain ⟨l, b, xs, zs, rfl, rfl, hH, hB, hz, q⟩ := h
  cases rx
  cases ry
  obtain ⟨z, its, n, r, hl, e⟩ := I.lstM hH
  obtain ⟨z2, its2, n2, r2, hl2, e2⟩ := I.lstM hB
  refine PySem.P.add_list e e2 ?_ (by rw [List.size_toArray, List.size_toArray]; omega)
  have ea : its.toArray ++ its2.toArray = (its ++ its2).toArray := by simp
  rw [ea]
  exact ⟨.ref _, _, I.lnew (t' := s.toks) (r.append r2) (by rw [List.length_append]; omega), rfl, q _ I.fresh⟩
def rRep : R2 := fun x y H Q => ∃ l k xs, x = .ref l ∧ y = .int k ∧ H l = some (.lst xs) ∧ -(2 ^ 63) ≤ k ∧ k < 2 ^ 63 ∧ xs.length * k.toNat ≤ sizeLine ∧
  ∀ p, H p = none → Q (.ref p) (upd H p (.lst (List.replicate k.toNat xs).flatten))
end
section
variable {prog : Program} {w : World} {A : Around} {E : Value → Shared → Prop} {s : Shared}
set_option maxRecDepth 100000 in
end
section
variable {X : Cx}
end
end L2
namespace Att
open PySem PySem.W PySem.Calls PyProof.Rows
theorem ints_of_wellAll {P : Params} {h : Heap} : ∀ (ns : List Int) (vs : List Value), WellAll P h vs (ns.map WData.int) → IntsAre vs ns := by
  intro ns
  induction ns with
  | nil =>
    intro vs w
    rw [List.map_nil] at w
    cases w
    exact .nil
  | cons n ns ih =>
    intro vs w
    rw [List.map_cons] at w
    cases w with
    | cons a b =>
      cases a
      exact .cons _ _ (ih _ b)
theorem script_of {l : OpenLaw} {n : Nat} (hn : l.most = some n) {P : Params} {h : Heap} {args : List WData} {vals : List Value}
    (hpre : l.row.toRowW.claim.pre args = true) (hwl : WellAll P h vals args) :
    ∃ a vs ns, vals = [Value.ref a] ∧ args = [WData.list (ns.map WData.int)] ∧ h.get? a = some { cls := .type "list", data := .seq vs.toArray } ∧ IntsAre vs ns ∧ ns.length ≤ n := by
  have hsh : WShape.hasAll [] args [.list .int] = true := (pre_splitW hpre).1
  have hc : l.pre.holds [] { args := args } = true := (pre_splitW hpre).2
  obtain ⟨d, r, rfl, h1, h2⟩ := hasAllW_cons hsh
  obtain rfl := hasAllW_nil h2
  obtain ⟨xs, rfl, h3⟩ := hasW_list h1
  obtain ⟨ns, rfl⟩ := items_int h3
  have hlen : ns.length ≤ n := by
    unfold OpenLaw.pre at hc
    have h4 : (WTm.not (.lt (.lit (.int (n : Int))) (.len (.arg 0)))).holds [] { args := [.list (ns.map .int)] } = true := by
      have h4 := (holds_andW hc).1
      rw [hn] at h4
      exact h4
    have h5 := condW_of h4 (w_not (w_lt w_lit (w_len_list (w_arg rfl))))
    rw [List.length_map] at h5
    refine Nat.le_of_not_lt fun q => ?_
    have q' : (n : Int) < ((ns.length : Nat) : Int) := by omega
    first
      | (rw [decide_eq_true q'] at h5; exact absurd h5 (by decide))
      | (simp at h5; omega)
  cases hwl with
  | cons w1 w2 =>
    cases w2
    cases w1 with
    | list ho hall => exact ⟨_, _, ns, rfl, rfl, ho, ints_of_wellAll ns _ hall, hlen⟩
theorem post_true (l : OpenLaw) (args : List WData) : l.row.toRowW.claim.post args (.bool true) args = true :=
  postW_of (r := l.row.toRowW) (X := (true == true))
    (show WShape.has [] (.bool true) .bool = true by first | rfl | decide | simp [WShape.has, WShape.arms, WShape.armsAll])
    (show (WTm.eq .res (.lit (.bool true))).value [] { args := args, res := some (.bool true), after := args } = some (.bool (true == true)) from w_eq_bool (w_res rfl) w_lit) rfl
theorem attach_call {l : OpenLaw} {n : Nat} {q : Program} {loose : List Str} {XP : (Str → Option Value) → Heap → Prop} {YP : World → Heap → Prop} {d : DefRec}
    (hn : l.most = some n) (hdf : d.params.defaults = [])
    (call : ∀ (w : World) (s₀ s₁ : Shared) (mg mb : Str → Option Value) (fa : Addr) (o : Obj) (pm cd doc : Value) (a : Addr) (vs : List Value) (ns : List Int),
      Ground q loose [] XP w s₀ mg mb s₁.heap → YP w s₁.heap →
      s₁.heap.get? fa = some o → o.data = .func (docDef d.name d.params d.body d.scope pm cd doc) → s₁.heap.CodeRec cd d.name → mg d.name = some (.ref fa) →
      s₁.heap.get? a = some { cls := .type "list", data := .seq vs.toArray } → IntsAre vs ns → ns.length ≤ n → s₁.gens = #[] →
      codeAny (model l.prog w) callerA (.call (.ref fa) ⟨[.ref a], []⟩) (fun r s' => r = .ok (.ret (.bool true)) ∧ OldK s₁.heap s'.heap ∧ s'.os = s₁.os ∧ AllBare s'.gens) s₁) :
    WalkO q loose XP YP l.row.toRowW d [] (fun f vs => PySem.call f vs) := by
  intro w s₀ s₁ mg mb G Y fa o pm cd doc dV kV ho hd hcd hD hmg hg args vals as hpre hlay hrd hwl hlo
  obtain rfl : dV = .none := Dflts.none hD hdf
  obtain rfl : kV = .none := Dflts.noKw hD
  obtain ⟨a, vs, ns, rfl, rfl, hobj, hints, hlen⟩ := script_of hn hpre hwl
  refine enter_call (codeAny_mono (call w s₀ s₁ mg mb fa o pm cd doc a vs ns G Y ho (fd_plain hd) hcd hmg hobj hints hlen hg) fun r s' hq => ?_)
  obtain ⟨rfl, h2, h3, h4⟩ := hq
  exact ⟨.inl ⟨.bool true, .bool true, [], rfl, fun _ => rfl, .bool true, post_true l _, fun _ => ⟨List.Pairwise.nil, fun _ hm => (nomatch hm)⟩⟩, h2, h3, h4⟩
section
variable {prog : Program} {w : World} {A : Around} {E : Value → Shared → Prop} {s : Shared} {K : Frag}
def noObjs (h : Heap) : Heap := { h with objs := #[] }
def ledger (h : Heap) (L d : Addr) : List (Addr × Obj) := (List.range h.objs.size).filterMap fun a => if a = L ∨ a = d then none else (h.get? a).map fun o => (a, o)
end
end Att
namespace L2
open PySem PySem.Spec PyProof.Rows
theorem vals_ints : ∀ {vs : List Value} {ns : List Int}, IntsAre vs ns → Vals (ns.map V.int) vs
  | _, _, .nil => .nil
  | _, _, .cons n t h => .cons ⟨t, rfl⟩ (vals_ints h)
def Only (H : Hp) : Prop := ∀ b, H b = none ∨ ∃ o xs, H b = some (.frz o (.lst xs))
theorem law_call {P : Program} {w : World} {K : PySem.W.Frag} {mg mb : Str → Option Value} {CX : CXT} {k : Nat} {fa a : Addr} {fd : FuncData} {x : Str} {sp : Sp} {s₁ : Shared} {vs : List Value} {ns : List Int}
    (KX : K.In s₁.heap) (hns : s₁.heap.Ns mainGlobals mg) (hb : s₁.heap.Ns builtinsNs mb) (hbb : ∀ x : Str, x ≠ "__name__" → mb x = bootBuiltins x) (hlim : s₁.heap.NoLimit) (hg : s₁.gens = #[])
    (ha : s₁.heap.get? a = some { cls := .type "list", data := .seq vs.toArray }) (hi : IntsAre vs ns) (hl : ns.length ≤ sizeLine) (hr : Room k callerA)
    (F : ∀ base : Heap, K.In base → base.Ns mainGlobals mg → FnOk P w K mg base CX k fa fd [x] sp) (hbind : ∀ (s : Shared) (u : Value), BindsTo s fd ⟨[u], []⟩ [(x, u)])
    (hsp : ∀ H : Hp, Only H → SqL K H a (ns.map V.int) → sp [.ref a] H (fun v _ => v = .bl true) fun _ _ _ => False)
    (hCX : ∀ H e s', CX [] H s₁ (fun _ _ _ => False) e s' → False) :
    codeAny (model P w) callerA (.call (.ref fa) ⟨[.ref a], []⟩) (fun r s' => r = .ok (.ret (.bool true)) ∧ OldK s₁.heap s'.heap ∧ s'.os = s₁.os ∧ AllBare s'.gens) s₁ := by
  have rv := vals_ints hi
  have lenV := hi.length
  have core : ∀ H : Hp, Only H → SqL K H a (ns.map V.int) → HOk P w H s₁.heap → (∀ b, H b ≠ none → b = a) → (H a ≠ none → K.lookup a = none) →
      codeAny (model P w) callerA (.call (.ref fa) ⟨[.ref a], []⟩) (fun r s' => r = .ok (.ret (.bool true)) ∧ OldK s₁.heap s'.heap ∧ s'.os = s₁.os ∧ AllBare s'.gens) s₁ := by
    intro H hO hS hok hA hK
    have base_of : ∀ {b : Addr} {o : Obj}, s₁.heap.get? b = some o → H b = none → (hidT s₁.heap H).get? b = some o := fun e n => hidT_get e n
    have noA : ∀ {b : Addr} {o : Obj} {es : Array DictEntry} {ep : Nat}, s₁.heap.get? b = some o → o.data = .dict es ep → H b = none := fun {b o es ep} e d => by
      cases q : H b with
      | none => rfl
      | some u =>
        have e' : b = a := hA b (by rw [q]; simp)
        subst e'
        rw [ha] at e; cases e
        have d' : Data.seq vs.toArray _ = Data.dict es ep := d
        cases d'
    have nsK : ∀ {b : Addr} {m : Str → Option Value}, s₁.heap.Ns b m → (hidT s₁.heap H).Ns b m := fun {b m} ⟨o, es, ep, e, d, r⟩ => ⟨o, es, ep, base_of e (noA e d), d, r⟩
    have hKb : K.In (hidT s₁.heap H) := fun b o e => base_of (KX b o e) (by
      cases q : H b with
      | none => rfl
      | some u =>
        have e' : b = a := hA b (by rw [q]; simp)
        subst e'
        rw [hK (by rw [q]; simp)] at e; cases e)
    have hM : Mod K mg (hidT s₁.heap H) := ⟨hKb, nsK hns, ⟨mb, nsK hb, hbb⟩, let ⟨mc, h1, h2⟩ := hlim; ⟨mc, nsK h1, h2⟩⟩
    have e0 : Env0 P w K mg (hidT s₁.heap H) callerA [] s₁ H := ⟨rfl, hM, fun b o e => of_hidT e, Nat.le_of_eq (hidT_size _ _), trivial, fun b hb => absurd (show b ∈ ([] : List Addr) from hb) (by simp), hok, .of_eq hg⟩
    refine codeAny_mono ((F _ hKb (nsK hns)).run callerA [] s₁ H ⟨[.ref a], []⟩ [.ref a] [.ref a] _ _ hr e0 (hbind s₁ (.ref a)) (.cons rfl .nil) (hsp H hO hS)) fun r s' h => ?_
    cases r with
    | error e => exact (hCX H e s' h).elim
    | ok fl =>
      cases fl with
      | next => exact False.elim h
      | brk => exact False.elim h
      | cont => exact False.elim h
      | ret u =>
        obtain ⟨v, H', os, bare, un, hok', r', q⟩ := h
        have q' : v = .bl true := q
        subst q'
        obtain rfl : u = Value.bool true := r'
        refine ⟨rfl, OldK.of_keep fun b o e => ?_, os, bare⟩
        cases q : H b with
        | none => exact un.keep b o e q (by intro z; exact absurd (show b ∈ ([] : List Addr) from z) (by simp)) (by simp)
        | some u =>
          rcases hO b with z | ⟨ob, xs, z⟩
          · rw [q] at z; cases z
          · have z2 := un.frzs b ob _ z
            obtain ⟨e1, _⟩ := hok b _ z
            obtain ⟨e2, _⟩ := hok' b _ z2
            rw [e] at e1; cases e1
            exact e2
  cases hk : K.lookup a with
  | some o =>
    have e := KX a o hk
    rw [ha] at e
    cases e
    refine core (fun _ => none) (fun _ => .inl rfl) (.inr ⟨_, vs.toArray, _, hk, rfl, rfl, rfl, by rw [List.size_toArray, lenV]; exact hl, by simpa using rv⟩) (fun b u z => by have z' : (none : Option HO) = some u := z; cases z') (fun b z => absurd rfl z) fun z => absurd rfl z
  | none =>
    refine core (fun b => if b = a then some (.frz { cls := .type "list", data := .seq vs.toArray } (.lst (ns.map V.int))) else none) (fun b => ?_) (.inl (.inr ⟨{ cls := .type "list", data := .seq vs.toArray }, if_pos rfl⟩)) (fun b u z => ?_) (fun b z => ?_) fun _ => hk
    · by_cases hb : b = a
      · exact .inr ⟨_, _, if_pos hb⟩
      · exact .inl (if_neg hb)
    · by_cases hb : b = a
      · have z' := (if_pos hb).symm.trans z
        cases z'
        subst hb
        exact ⟨ha, by rw [List.length_map]; exact hl, vs, _, rv, ha⟩
      · have z' := (if_neg hb).symm.trans z
        cases z'
    · by_cases hb : b = a
      · exact hb
      · exact absurd (if_neg hb) z
end L2
namespace L2
open PySem PySem.Spec PyProof.Rows
abbrev KOf {K : PySem.W.Frag} {h : Heap} (_ : K.In h) : PySem.W.Frag := K
theorem walk_of {l : PySem.W.OpenLaw} {n k : Nat} {q : Program} {loose : List Str} {XP : (Str → Option Value) → Heap → Prop} {YP : World → Heap → Prop} {d : DefRec} {K : Params → PySem.W.Frag} {CX : World → CXT} {sp : World → Sp} {x : Str}
    (hn : l.most = some n) (hn2 : n ≤ sizeLine) (hdf : d.params.defaults = []) (hr : Room k callerA)
    (hY : ∀ (w : World) (h : Heap), YP w h → (K w.params).In h)
    (F : ∀ (w : World) (mg : Str → Option Value) (fa : Addr) (h : Heap), (K w.params).In h → h.Ns mainGlobals mg → mg d.name = some (.ref fa) →
      ∃ fd : FuncData, (∀ (s : Shared) (u : Value), BindsTo s fd ⟨[u], []⟩ [(x, u)]) ∧
        ∀ base : Heap, (K w.params).In base → base.Ns mainGlobals mg → FnOk l.prog w (K w.params) mg base (CX w) k fa fd [x] (sp w))
    (hsp : ∀ (w : World) (H : Hp) (a : Addr) (ns : List Int), ns.length ≤ n → Only H → SqL (K w.params) H a (ns.map V.int) → sp w [.ref a] H (fun v _ => v = .bl true) fun _ _ _ => False)
    (hCX : ∀ (w : World) (H : Hp) (s : Shared) (e : Value) (s' : Shared), CX w [] H s (fun _ _ _ => False) e s' → False) :
    PySem.W.WalkO q loose XP YP l.row.toRowW d [] (fun f vs => PySem.call f vs) := by
  refine Att.attach_call hn hdf fun w s₀ s₁ mg mb fa o pm cd doc a vs ns G Y ho hd hcd hmg hobj hints hlen hg => ?_
  have KX := hY w _ Y
  obtain ⟨fd, hb, hF⟩ := F w mg fa _ KX G.T.g hmg
  exact law_call KX G.T.g G.T.b G.T.builtins G.T.nolimit hg hobj hints (Nat.le_trans hlen hn2) hr hF hb (fun H hO hS => hsp w H a ns hlen hO hS) fun H e s' => hCX w H s₁ e s'
end L2
/- THE LAST THEOREM (shape; LID, My.* are yours):
   My.Adr: a structure of the addresses that your layer names (classes, functions); My.Txt K t: a structure (Prop) of the equations over K;
   My.txt_mk : {K} {implicit addresses ..} (e1 : nsIn K mainGlobals "law" = some (some (.ref f))) (e2 : K.lookup f = some ⟨oc, od, .func (fnOf "law" "law" params body scope dV kV doc pm an cdv ct), sl⟩) (e3 : codeIn K cdv "law" = true) .. : ∃ t, My.Txt K t
set_option maxRecDepth 100000 in
set_option maxHeartbeats 0 in
(the tactic k_is has no namespace: write k_is) -/
namespace L2
open PySem PySem.Spec PyProof.Rows
def inClass (s : Stmt) (j : Nat) : Stmt := match s with
  | .ClassDef _ _ _ body _ _ _ _ _ _ _ => body.getD j (.Pass ⟨0, 0, 0, 0⟩)
  | _ => .Pass ⟨0, 0, 0, 0⟩
def defArgs (s : Stmt) : Arguments := match s with
  | .FunctionDef _ a _ _ _ _ _ _ _ _ => a
  | _ => { posonlyargs := [], args := [], vararg := none, kwonlyargs := [], kw_defaults := [], kwarg := none, defaults := [] }
def defBody (s : Stmt) : List Stmt := match s with
  | .FunctionDef _ _ b _ _ _ _ _ _ _ => b
  | _ => []
def defScope (s : Stmt) : Scope := match s with
  | .FunctionDef _ _ _ _ _ _ sc _ _ _ => sc
  | _ => { kind := .function, names := [], isGenerator := false, isCoroutine := false }
abbrev CX0 : CXT := fun _ _ _ _ _ _ => False
abbrev E0 : XK := fun _ _ _ => False
structure Fun (K : PySem.W.Frag) (x qual : Str) (st : Stmt) (f : Addr) (fd : FuncData) : Prop where
  ex : ∃ (oc : Value) (od : Option Addr) (kV doc pm : Value) (an : Option Addr) (cdv ct : Value) (osl : Array (Option Value)),
    fd = PySem.W.fnOf x qual (defArgs st) (defBody st) (defScope st) .none kV doc pm an cdv ct ∧ K.lookup f = some ⟨oc, od, .func fd, osl⟩ ∧ PySem.W.codeIn K cdv qual = true
  kp : PySem.W.keepIn K (.ref f) = true
section
variable {P : Program} {w : World} {K : PySem.W.Frag} {mg : Str → Option Value} {base : Heap}
theorem Fun.binds {x qual : Str} {st : Stmt} {f : Addr} {fd : FuncData} {ps : List Str} (F : Fun K x qual st f fd)
    (h : ∀ (kV doc pm : Value) (an : Option Addr) (cdv ct : Value) (us : List Value), us.length = ps.length → bindArgs (PySem.W.fnOf x qual (defArgs st) (defBody st) (defScope st) .none kV doc pm an cdv ct) ⟨us, []⟩ = pure (ps.zip us)) : Binds K fd ps [] := by
  obtain ⟨oc, od, kV, doc, pm, an, cdv, ct, osl, rfl, lk, hcd⟩ := F.ex
  exact .all (h kV doc pm an cdv ct)
theorem fun_mk {x qual : Str} {st : Stmt} {f : Addr} {oc : Value} {od an : Option Addr} {osl : Array (Option Value)} {kV doc pm cdv ct : Value} (l : K.lookup f = some ⟨oc, od, .func (PySem.W.fnOf x qual (defArgs st) (defBody st) (defScope st) .none kV doc pm an cdv ct), osl⟩)
    (c : PySem.W.codeIn K cdv qual = true) (k : PySem.W.keepIn K (.ref f) = true) : Fun K x qual st f (PySem.W.fnOf x qual (defArgs st) (defBody st) (defScope st) .none kV doc pm an cdv ct) := ⟨⟨oc, od, kV, doc, pm, an, cdv, ct, osl, rfl, l, c⟩, k⟩
end
section
variable {X : Cx}
end
def Same (H H' : Hp) : Prop := ∀ b o, H b = some o → H' b = some o
theorem Same.refl (H : Hp) : Same H H := fun _ _ h => h
theorem Same.trans {H H1 H2 : Hp} (a : Same H H1) (b : Same H1 H2) : Same H H2 := fun c o h => b c o (a c o h)
theorem Same.seq {K : PySem.W.Frag} {H H' : Hp} {a : Addr} {xs : List V} (e : Same H H') (h : SqL K H a xs) : SqL K H' a xs := by
  rcases h with (h | ⟨o, h⟩) | h
  · exact .inl (.inl (e _ _ h))
  · exact .inl (.inr ⟨o, e _ _ h⟩)
  · exact .inr h
end L2
section
set_option Elab.async false
set_option linter.all false
set_option maxRecDepth 100000
namespace L2
open PySem PySem.Spec PyProof.Rows
section
variable {κ : Type} [DecidableEq κ]
def valV (kvs : List (κ × V)) (k : κ) : Option V := (kvs.find? fun kv => decide (kv.1 = k)).map (·.2)
def putK (kvs : List (κ × V)) (k : κ) (v : V) : List (κ × V) :=
  if (kvs.any fun kv => decide (kv.1 = k)) = true then kvs.map (fun kv => if kv.1 = k then (kv.1, v) else kv) else kvs ++ [(k, v)]
def dropK (kvs : List (κ × V)) (k : κ) : List (κ × V) := kvs.filter fun kv => decide (kv.1 ≠ k)
theorem valV_pos {p : κ × V} {r : List (κ × V)} {k : κ} (e : p.1 = k) : valV (p :: r) k = some p.2 := by simp [valV, List.find?_cons, e]
theorem valV_neg {p : κ × V} {r : List (κ × V)} {k : κ} (e : ¬ p.1 = k) : valV (p :: r) k = valV r k := by simp [valV, List.find?_cons, e]
theorem valV_any (k : κ) : ∀ kvs : List (κ × V), (kvs.any fun kv => decide (kv.1 = k)) = (valV kvs k).isSome
  | [] => rfl
  | p :: r => by
    rw [List.any_cons]
    by_cases e : p.1 = k
    · simp only [valV_pos e, decide_eq_true e, Bool.true_or, Option.isSome_some]
    · rw [valV_neg e, decide_eq_false e, Bool.false_or]; exact valV_any k r
theorem length_putK (kvs : List (κ × V)) (k : κ) (v : V) : (putK kvs k v).length ≤ kvs.length + 1 := by
  unfold putK
  split
  · rw [List.length_map]; omega
  · rw [List.length_append, List.length_cons, List.length_nil]; omega
theorem RelO.isSome_eq {o : Option V} {u : Option Value} (r : RelO o u) : o.isSome = u.isSome := by
  cases o with
  | none => cases u with
    | none => rfl
    | some _ => exact (show False from r).elim
  | some _ => cases u with
    | none => exact (show False from r).elim
    | some _ => rfl
theorem KV.val {kvs : List (κ × V)} {vs : List (κ × Value)} (r : KV kvs vs) (k : κ) : RelO (valV kvs k) (valueAt vs k) := by
  unfold KV at r
  induction r with
  | nil => exact True.intro
  | @cons p q ps qs h t ih =>
    obtain ⟨h1, h2⟩ := h
    by_cases e : p.1 = k
    · have e' : q.1 = k := h1.symm.trans e
      have b : valueAt (q :: qs) k = some q.2 := by simp [valueAt, List.find?_cons, e']
      rw [valV_pos e, b]; exact h2
    · have e' : ¬ q.1 = k := fun z => e (h1.trans z)
      have b : valueAt (q :: qs) k = valueAt qs k := by simp [valueAt, List.find?_cons, e']
      rw [valV_neg e, b]; exact ih
theorem KV.any {kvs : List (κ × V)} {vs : List (κ × Value)} (r : KV kvs vs) (k : κ) : (kvs.any fun kv => decide (kv.1 = k)) = vs.any fun kv => decide (kv.1 = k) := by
  unfold KV at r
  induction r with
  | nil => rfl
  | cons h t ih => rw [List.any_cons, List.any_cons, ih, h.1]
theorem KV.repl {kvs : List (κ × V)} {vs : List (κ × Value)} (r : KV kvs vs) (k : κ) {y : V} {u : Value} (ry : RelV y u) :
    KV (kvs.map fun kv => if kv.1 = k then (kv.1, y) else kv) (vs.map fun kv => if kv.1 = k then (kv.1, u) else kv) := by
  unfold KV at r ⊢
  induction r with
  | nil => exact .nil
  | @cons p q ps qs h t ih =>
    rw [List.map_cons, List.map_cons]
    refine .cons ?_ ih
    obtain ⟨h1, h2⟩ := h
    by_cases e : p.1 = k
    · rw [if_pos e, if_pos (h1.symm.trans e)]; exact ⟨h1, ry⟩
    · rw [if_neg e, if_neg (fun z => e (h1.trans z))]; exact ⟨h1, h2⟩
theorem KV.put {kvs : List (κ × V)} {vs : List (κ × Value)} (r : KV kvs vs) (k : κ) {y : V} {u : Value} (ry : RelV y u) : KV (putK kvs k y) (stored vs k u) := by
  unfold putK stored
  rw [r.any k]
  by_cases e : (vs.any fun kv => decide (kv.1 = k)) = true
  · rw [if_pos e, if_pos e]; exact r.repl k ry
  · rw [if_neg e, if_neg e]; exact Paired.snoc r ⟨rfl, ry⟩
theorem KV.keys {kvs : List (κ × V)} {vs : List (κ × Value)} (r : KV kvs vs) : kvs.map (·.1) = vs.map (·.1) := by
  unfold KV at r
  induction r with
  | nil => rfl
  | cons h t ih => rw [List.map_cons, List.map_cons, ih, h.1]
theorem KV.length {kvs : List (κ × V)} {vs : List (κ × Value)} (r : KV kvs vs) : kvs.length = vs.length := Paired.length r
end
theorem kV_is {P : Program} {w : World} {k : Key} {u : Value} (r : RelV (kV k) u) : (mixKind P w).is k u = true := by
  cases k with
  | inl i => obtain ⟨t, e⟩ := (show ∃ t, u = Value.int i t from r); subst e; exact mixKind_int P w i t
  | inr x => obtain ⟨t, e⟩ := (show ∃ t, u = Value.str x t from r); subst e; exact mixKind_str P w x t
theorem items_are {P : Program} {w : World} : ∀ {ks : List Key} {us : List Value}, Vals (ks.map kV) us → ItemsAre (mixKind P w) ks us
  | [], _, r => by rw [List.map_nil] at r; cases r; exact .nil
  | k :: ks, _, r => by
    rw [List.map_cons] at r
    cases r with
    | cons h t => exact .cons (kV_is h) (items_are t)
abbrev KT (H : Hp) : List (List Key × V) → List (List Key × Addr × Value) → Prop := Paired fun p q => p.1 = q.1 ∧ H q.2.1 = some (.tup (p.1.map kV)) ∧ RelV p.2 q.2.2
theorem KT.val {H : Hp} {kvs : List (List Key × V)} {xs : List (List Key × Addr × Value)} (r : KT H kvs xs) (k : List Key) : RelO (valV kvs k) ((atKey xs k).map (·.2)) := by
  induction r with
  | nil => exact True.intro
  | @cons p q ps qs h t ih =>
    obtain ⟨h1, _, h2⟩ := h
    by_cases e : p.1 = k
    · have e' : q.1 = k := h1.symm.trans e
      have b : atKey (q :: qs) k = some q.2 := by simp [atKey, List.find?_cons, e']
      rw [valV_pos e, b]; exact h2
    · have e' : ¬ q.1 = k := fun z => e (h1.trans z)
      have b : atKey (q :: qs) k = atKey qs k := by simp [atKey, List.find?_cons, e']
      rw [valV_neg e, b]; exact ih
theorem KT.repl {H : Hp} {kvs : List (List Key × V)} {xs : List (List Key × Addr × Value)} (r : KT H kvs xs) (k : List Key) {y : V} {u : Value} (ry : RelV y u) :
    KT H (kvs.map fun kv => if kv.1 = k then (kv.1, y) else kv) (xs.map (putAt k u)) := by
  induction r with
  | nil => exact .nil
  | @cons p q ps qs h t ih =>
    rw [List.map_cons, List.map_cons]
    refine .cons ?_ ih
    obtain ⟨h1, h2, h3⟩ := h
    unfold putAt
    by_cases e : p.1 = k
    · rw [if_pos e, if_pos (h1.symm.trans e)]; exact ⟨h1, h2, ry⟩
    · rw [if_neg e, if_neg (fun z => e (h1.trans z))]; exact ⟨h1, h2, h3⟩
theorem KT.put {H : Hp} {kvs : List (List Key × V)} {xs : List (List Key × Addr × Value)} (r : KT H kvs xs) (k : List Key) {b : Addr} {y : V} {u : Value} (hb : H b = some (.tup (k.map kV))) (ry : RelV y u) :
    KT H (putK kvs k y) (storedH xs k b u) := by
  have e : (kvs.any fun kv => decide (kv.1 = k)) = (atKey xs k).isSome := by
    rw [valV_any, (r.val k).isSome_eq, Option.isSome_map]
  unfold putK storedH
  rw [e]
  by_cases q : (atKey xs k).isSome = true
  · rw [if_pos q, if_pos q]; exact r.repl k ry
  · rw [if_neg q, if_neg q]; exact Paired.snoc r ⟨rfl, hb, ry⟩
theorem KT.keeps {H H' : Hp} {kvs : List (List Key × V)} {xs : List (List Key × Addr × Value)} (r : KT H kvs xs) (ht : ∀ b ys, H b = some (.tup ys) → H' b = some (.tup ys)) : KT H' kvs xs :=
  Paired.mapP r fun _ _ z => ⟨z.1, ht _ _ z.2.1, z.2.2⟩
section
variable {P : Program} {w : World} {H : Hp} {h : Heap} {a : Addr}
theorem rd_of {u : HO} (ok : HOk P w H h) (e : Rd H a u) : ObjOk P w H h a u := e.ok ok
theorem dk_rd {kvs : List (Key × V)} (ok : HOk P w H h) (e : Rd H a (.dK kvs)) : kvs.length ≤ sizeLine ∧ (a == sysModules) = false ∧ ∃ vs, KV kvs vs ∧ h.DictOf (mixKind P w) a vs :=
  show ObjOk P w H h a (.dK kvs) from rd_of ok e
theorem dk_of {kvs : List (Key × V)} (ok : HOk P w H h) (e : H a = some (.dK kvs)) : kvs.length ≤ sizeLine ∧ (a == sysModules) = false ∧ ∃ vs, KV kvs vs ∧ h.DictOf (mixKind P w) a vs := dk_rd ok (.inl e)
theorem key_of {ks : List Key} (ok : HOk P w H h) (e : H a = some (.tup (ks.map kV))) : (tupleKind (mixKind P w)).is h ks a := by
  obtain ⟨_, its, r, o, h1, h2, n, h3⟩ := (show ObjOk P w H h a (.tup (ks.map kV)) from ok a _ e)
  exact ⟨o, its.toArray, n, h1, h2, h3, by simpa using items_are r⟩
theorem dt_rd {kvs : List (List Key × V)} (ok : HOk P w H h) (e : Rd H a (.dT kvs)) : kvs.length ≤ sizeLine ∧ (a == sysModules) = false ∧
    ∃ xs, KT H kvs xs ∧ h.DictOfH (tupleKind (mixKind P w)) a xs := by
  obtain ⟨z, y, xs, r, o, es, ep, h1, h2, h3, h4, h5⟩ := (show ObjOk P w H h a (.dT kvs) from rd_of ok e)
  refine ⟨z, y, xs, r, o, es, ep, h1, h2, h3, h4, fun x hx => ?_, h5⟩
  have all : ∀ {l : List (List Key × V)} {m : List (List Key × Addr × Value)}, KT H l m → ∀ x ∈ m, (tupleKind (mixKind P w)).is h x.1 x.2.1 := by
    intro l m q
    induction q with
    | nil => intro x hx; exact nomatch hx
    | @cons p q ps qs hq t ih =>
      intro x hx
      rcases List.mem_cons.mp hx with e | hx
      · subst e
        exact key_of ok (by rw [← hq.1]; exact hq.2.1)
      · exact ih x hx
  exact all r x hx
theorem dt_of {kvs : List (List Key × V)} (ok : HOk P w H h) (e : H a = some (.dT kvs)) : kvs.length ≤ sizeLine ∧ (a == sysModules) = false ∧
    ∃ xs, KT H kvs xs ∧ h.DictOfH (tupleKind (mixKind P w)) a xs := dt_rd ok (.inl e)
end
def DGet (H : Hp) (a : Addr) (y : V) (r : Option V) : Prop :=
  (∃ kvs k, Rd H a (.dK kvs) ∧ y = kV k ∧ r = valV kvs k) ∨ ∃ kvs k b, Rd H a (.dT kvs) ∧ y = .ref b ∧ H b = some (.tup (k.map kV)) ∧ r = valV kvs k
def DPut (H : Hp) (a : Addr) (y v : V) (H' : Hp) : Prop :=
  (∃ kvs k, H a = some (.dK kvs) ∧ y = kV k ∧ kvs.length < sizeLine ∧ H' = upd H a (.dK (putK kvs k v))) ∨
  ∃ kvs k b, H a = some (.dT kvs) ∧ y = .ref b ∧ H b = some (.tup (k.map kV)) ∧ kvs.length < sizeLine ∧ H' = upd H a (.dT (putK kvs k v))
theorem DPut.k {H : Hp} {a : Addr} {kvs : List (Key × V)} {k : Key} {v : V} (e : H a = some (.dK kvs)) (hl : kvs.length < sizeLine) : DPut H a (kV k) v (upd H a (.dK (putK kvs k v))) := .inl ⟨kvs, k, e, rfl, hl, rfl⟩
section
variable {X : Cx} {pins : List (Addr × Obj)} {σ : St} {H : Hp} {s : Shared} {a : Addr} {y v : V} {u r : Value} {o : Option V} {A : Around} {E : Value → Shared → Prop}
theorem Inv.big (I : Inv X pins σ H s) : sysModules < s.heap.objs.size := by
  have h : mainGlobals < s.heap.objs.size := (I.mod.glob.keeps I.bk).lt
  exact Nat.lt_trans (by decide) h
theorem d_getItem {Q : Value → Shared → Prop} (hu : A.units + 1 < cLine) (I : Inv X pins σ H s) (g : DGet H a y (some v)) (ry : RelV y u) (h : ∀ w' s', Inv X pins σ H s' → RelV v w' → Q w' s') :
    wpAny (model X.prog X.w) A (getItem (.ref a) u) Q E s := by
  rcases g with ⟨kvs, k, e, ey, l⟩ | ⟨kvs, k, b, e, ey, eb, l⟩
  · subst ey
    obtain ⟨z, hd, vs, rel, dd⟩ := dk_rd I.hok e
    obtain ⟨w', hw, rw'⟩ := RelO.some_of (v := v) (o := valueAt vs k) (by rw [l]; exact rel.val k)
    exact wpAny_getItem_of (kV_is ry) dd.mapOf hw (h w' _ (I.tok _) rw')
  · subst ey
    cases (show u = Value.ref b from ry)
    obtain ⟨z, hd, xs, rel, dd⟩ := dt_rd I.hok e
    obtain ⟨w', hw, rw'⟩ := RelO.some_of (v := v) (o := (atKey xs k).map (·.2)) (by rw [l]; exact rel.val k)
    obtain ⟨p, hp, hp2⟩ := Option.map_eq_some_iff.mp hw
    refine wpAny_getItem_heap (tupleKind_room_in1 hu) (key_of I.hok eb) dd hp ?_
    rw [hp2]
    exact h w' _ (I.tok _) rw'
theorem d_notIn {Q : Value → Shared → Prop} (hu : A.units + 1 < cLine) (I : Inv X pins σ H s) (g : DGet H a y o) (ry : RelV y u) (h : ∀ s', Inv X pins σ H s' → Q (.bool (!o.isSome)) s') :
    wpAny (model X.prog X.w) A (compareOp .NotIn u (.ref a)) Q E s := by
  rcases g with ⟨kvs, k, e, ey, l⟩ | ⟨kvs, k, b, e, ey, eb, l⟩
  · subst ey
    obtain ⟨z, hd, vs, rel, dd⟩ := dk_rd I.hok e
    refine wpAny_notIn_of (kV_is ry) hd dd.mapOf ?_
    rw [← (rel.val k).isSome_eq, ← l]
    exact h _ (I.tok _)
  · subst ey
    cases (show u = Value.ref b from ry)
    obtain ⟨z, hd, xs, rel, dd⟩ := dt_rd I.hok e
    refine wpAny_notIn_heap (tupleKind_room_in1 hu) (key_of I.hok eb) hd dd ?_
    have q := (rel.val k).isSome_eq
    rw [Option.isSome_map] at q
    rw [← q, ← l]
    exact h _ (I.tok _)
theorem d_write {h' : Heap} {t' : Nat} {ob : HO} (I : Inv X pins σ H s) (mu : Mut (H a)) (hs : Heap.SameBut a s.heap h') (he : ∃ q, h'.get? a = some q) (new : ObjOk X.prog X.w (upd H a ob) h' a ob) :
    Inv X pins σ (upd H a ob) { s with heap := h', toks := t' } :=
  I.write (x := a) (e := a) mu (.inl rfl) (fun b q hb z => (hs.2 b hb).trans z) he new
theorem dk_new {P : Program} {w : World} {H' : Hp} {h' : Heap} {kvs : List (Key × V)} {vs : List (Key × Value)} (z : kvs.length ≤ sizeLine) (hd : (a == sysModules) = false) (rel : KV kvs vs) (dd : h'.DictOf (mixKind P w) a vs) :
    ObjOk P w H' h' a (.dK kvs) := ⟨z, hd, vs, rel, dd⟩
theorem d_setItem {H' : Hp} {Q : Unit → Shared → Prop} (hu : A.units + 1 < cLine) (I : Inv X pins σ H s) (g : DPut H a y v H') (ry : RelV y u) (rv : RelV v r) (h : ∀ s', Inv X pins σ H' s' → Q () s') :
    wpAny (model X.prog X.w) A (setItem (.ref a) u r) Q E s := by
  rcases g with ⟨kvs, k, e, ey, l, eH⟩ | ⟨kvs, k, b, e, ey, eb, l, eH⟩
  · subst ey eH
    obtain ⟨z, hd, vs, rel, dd⟩ := dk_of I.hok e
    have hz : vs.length ≤ sizeLine := by rw [← rel.length]; exact z
    have hl : (putK kvs k v).length ≤ sizeLine := by have := length_putK kvs k v; omega
    refine wpAny_setItem_pairs (hsz := hz) (kV_is ry) dd fun h' dd' hs => h _ ?_
    have he : ∃ q, h'.get? a = some q := let ⟨q, _, _, hq, _⟩ := dd'; ⟨q, hq⟩
    exact d_write I (by rw [e]; exact True.intro) hs he (dk_new hl hd (rel.put k rv) dd')
  · subst ey eH
    cases (show u = Value.ref b from ry)
    obtain ⟨z, hd, xs, rel, dd⟩ := dt_of I.hok e
    have hz : xs.length ≤ sizeLine := by rw [← Paired.length rel]; exact z
    have hl : (putK kvs k v).length ≤ sizeLine := by have := length_putK kvs k v; omega
    refine wpAny_setItem_heap (hsz := hz) (tupleKind_room_in1 hu) (key_of I.hok eb) dd fun h' dd' hs => h _ ?_
    obtain ⟨q, es, ep, hq, h2, h3, h4, _, h5⟩ := dd'
    refine d_write I (by rw [e]; exact True.intro) hs ⟨q, hq⟩ ⟨hl, hd, _, (rel.put k eb rv).keeps fun c ys ec => ?_, q, es, ep, hq, h2, h3, h4, h5⟩
    rw [upd_ne (ne_of ec e (fun z => nomatch z))]
    exact ec
end
section
variable {X : Cx} {pins : List (Addr × Obj)} {σ : St} {H : Hp} {s : Shared} {a : Addr} {kvs : List (Key × V)} {k : Key} {u : Value} {A : Around} {E : Value → Shared → Prop}
end
def NoSl (i : Expr) : Prop := ∀ ov iv, subscripted i false ov iv = operate [ov, iv] (getItem ov iv)
theorem subD_of {prog : Program} {w : World} {A : Around} {E : Value → Shared → Prop} {s : Shared} {env : Env} {value slice : Expr} {pos : Pos} {T id : String} {Q : Value → Shared → Prop}
    (hl : typeLookup (.type T) "__getitem__" = pure (some (.builtin id))) (hs : NoSl slice)
    (h : wpAny (model prog w) A (eval value env) (fun o s₁ => wpAny (model prog w) A (eval slice env) (fun i s₂ => s₂.TypeIs o T ∧ wpAny (model prog w) A (getItem o i) Q E s₂) E s₁) E s) :
    wpAny (model prog w) A (eval (.Subscript value slice pos) env) Q E s := by
  refine Subscript_ (wpAny_mono h (fun o s₁ h₁ => wpAny_mono h₁ (fun i s₂ h₂ => ?_) fun _ _ x => x) fun _ _ x => x)
  obtain ⟨hT, h₂⟩ := h₂
  unfold subscriptTail
  refine wpAny_bind ?_
  rw [getitemInPython_of_ne hT.not_modules]
  refine wpAny_bind (wpAny_specialOf hT hl ?_)
  have fin : wpAny (model prog w) A (subscripted slice false o i) (fun r s₃ => wpAny (model prog w) A (letTemporaryGo value o r >>= fun _ => pure r) Q E s₃) E s₂ := by
    rw [hs o i]
    exact wpAny_operating (wpAny_mono h₂ (fun r s₃ h₃ => wpAny_bind (wpAny_letTemporaryGo (wpAny_pure h₃))) fun _ _ x => x)
  first
    | exact wpAny_pure (wpAny_bind fin)
    | exact wpAny_bind (wpAny_pure (wpAny_bind fin))
    | exact wpAny_bind fin
theorem dict_typeIs {X : Cx} {pins : List (Addr × Obj)} {σ : St} {H : Hp} {s : Shared} {a : Addr} {y : V} {o : Option V} (I : Inv X pins σ H s) (g : DGet H a y o) : s.TypeIs (.ref a) "dict" := by
  rcases g with ⟨kvs, k, e, _, _⟩ | ⟨kvs, k, b, e, _, _, _⟩
  · obtain ⟨_, _, vs, _, dd⟩ := dk_rd I.hok e
    exact dd.typeIs
  · obtain ⟨_, _, xs, _, dd⟩ := dt_rd I.hok e
    exact dd.typeIs
def tDGet (td ty : TE) : TE := fun σ H Q => td σ H fun x H1 => ty σ H1 fun y H2 => ∃ a v, x = .ref a ∧ DGet H2 a y (some v) ∧ Q v H2
def tDIn (ty td : TE) : TE := fun σ H Q => ty σ H fun y H1 => td σ H1 fun x H2 => ∃ a o, x = .ref a ∧ DGet H2 a y o ∧ Q (.bl o.isSome) H2
def tDNotIn (ty td : TE) : TE := fun σ H Q => ty σ H fun y H1 => td σ H1 fun x H2 => ∃ a o, x = .ref a ∧ DGet H2 a y o ∧ Q (.bl (!o.isSome)) H2
def sDPut (td ty tv : TE) : TS := fun D σ H => tv σ H fun v H1 => td σ H1 fun x H2 => ty σ H2 fun y H3 => ∃ a H4, x = .ref a ∧ DPut H3 a y v H4 ∧ D.nx σ H4
def sDAug (td ty tv : TE) (rd : V → V → Hp → VK → Prop) : TS := fun D σ H => td σ H fun x H1 => ty σ H1 fun y H2 => ∃ a v, x = .ref a ∧ DGet H2 a y (some v) ∧
  tv σ H2 fun y2 H3 => rd v y2 H3 fun z H4 => ∃ H5, DPut H4 a y z H5 ∧ D.nx σ H5
def sDDel (td ty : TE) : TS := fun D σ H => td σ H fun x H1 => ty σ H1 fun y H2 => ∃ a kvs k, x = .ref a ∧ H2 a = some (.dK kvs) ∧ y = kV k ∧ (valV kvs k).isSome = true ∧ D.nx σ (upd H2 a (.dK (dropK kvs k)))
section
variable {X : Cx} {o i e value : Expr} {pos pos' tpos : Pos} {td ty tv : TE}
theorem pe_dget (hu : X.A.units + 1 < cLine) (ho : PE X o td) (hi : PE X i ty) (hs : NoSl i) : PE X (.Subscript o i pos) (tDGet td ty) := by
  intro pins s σ H Q I h
  refine subD_of PySem.F.slot_dict_getitem.lookup hs (thn (ho pins s σ H _ I h) fun u s1 ⟨x, H1, I1, rx, q1⟩ => thn (hi pins s1 σ H1 _ I1 q1) fun iv s2 ⟨y, H2, I2, ry, a, v, ex, g, q2⟩ => ?_)
  subst ex
  obtain rfl : u = Value.ref a := rx
  exact ⟨dict_typeIs I2 g, d_getItem hu I2 g ry fun w' s3 I3 rw' => ⟨v, H2, I3, rw', q2⟩⟩
theorem pc_dnotin (hu : X.A.units + 1 < cLine) (hi : PE X i ty) (ho : PE X o td) : PC X .NotIn i o (tDNotIn ty td) := by
  intro pins s σ H Q I h
  refine thn (hi pins s σ H _ I h) fun iv s1 ⟨y, H1, I1, ry, q1⟩ => thn (ho pins s1 σ H1 _ I1 q1) fun u s2 ⟨x, H2, I2, rx, a, ov, ex, g, q2⟩ => ?_
  subst ex
  obtain rfl : u = Value.ref a := rx
  exact d_notIn hu I2 g ry fun s3 I3 => ⟨.bl (!ov.isSome), H2, I3, rfl, q2⟩
theorem ps_dput (hu : X.A.units + 1 < cLine) (ho : PE X o td) (hi : PE X i ty) (hv : PE X value tv) (hs : swapsWith value (some (.Subscript o i pos')) pos.line X.env = pure false) :
    PS X (.Assign [.Subscript o i pos'] value pos) (sDPut td ty tv) := by
  intro pins s σ H D I h
  refine wpAny_Assign_Subscript (thn (hv pins s σ H _ I h) fun r s1 ⟨v, H1, I1, rv, q1⟩ => thn (ho pins s1 σ H1 _ I1 q1) fun u s2 ⟨x, H2, I2, rx, q2⟩ => thn (hi pins s2 σ H2 _ I2 q2) fun iv s3 ⟨y, H3, I3, ry, a, H4, ex, g, q3⟩ => ?_) hs
  subst ex
  obtain rfl : u = Value.ref a := rx
  exact d_setItem hu I3 g ry rv fun s4 I4 => ⟨σ, H4, I4, q3⟩
end
theorem dk_empty {P : Program} {w : World} {H : Hp} (h : Heap) (hb : sysModules < h.objs.size) : ObjOk P w H (h.push { cls := .type "dict", data := .dict #[] }) h.objs.size (.dK []) :=
  ⟨Nat.zero_le _, beq_eq_false_iff_ne.mpr (Ne.symm (Nat.ne_of_lt hb)), [], .nil, Heap.DictOf.new h⟩
def tDNewK : TE := fun _ H Q => ∀ p, H p = none → Q (.ref p) (upd H p (.dK []))
def tDNewT : TE := fun _ H Q => ∀ p, H p = none → Q (.ref p) (upd H p (.dT []))
section
variable {X : Cx} {pos : Pos}
theorem pe_dnewK : PE X (.Dict [] [] pos) tDNewK := fun pins s σ H Q I h =>
  wpAny_Dict_empty ⟨.ref s.heap.objs.size, _, I.laid (a := s.heap.objs.size) (o := .dK []) (t' := s.toks) (fun _ _ q => Heap.get?_push_of_some _ q) (Nat.le_refl _) (dk_empty s.heap I.big), rfl, h _ (I.hok.fresh (Nat.le_refl _))⟩
end
def tPairs : List (TE × TE) → St → Hp → (List (V × V) → Hp → Prop) → Prop
  | [], _, H, Q => Q [] H
  | (tk, tv) :: r, σ, H, Q => tk σ H fun x H1 => tv σ H1 fun y H2 => tPairs r σ H2 fun ps H3 => Q ((x, y) :: ps) H3
abbrev VV : List (V × V) → List (Value × Value) → Prop := Paired fun p q => RelV p.1 q.1 ∧ RelV p.2 q.2
def PPs (X : Cx) (pos : Pos) (keys : List (Option Expr)) (values : List Expr) (trs : List (TE × TE)) : Prop :=
  ∀ (pins : List (Addr × Obj)) (s : Shared) (σ : St) (H : Hp) (Q : List (V × V) → Hp → Prop), Inv X pins σ H s → tPairs trs σ H Q →
    wpAny (model X.prog X.w) X.A (evalPairs (pairTrees keys values X.env pos)) (fun vs s' => ∃ ps H', Inv X pins σ H' s' ∧ VV ps vs ∧ Q ps H') X.xe s
theorem pps_nil {X : Cx} {pos : Pos} : PPs X pos [] [] [] := fun pins s σ H Q I h => pairTrees_nil_walk ⟨[], H, I, .nil, h⟩
theorem pps_cons {X : Cx} {pos : Pos} {k v : Expr} {ks : List (Option Expr)} {vs : List Expr} {tk tv : TE} {trs : List (TE × TE)} (hk : PE X k tk) (hv : PE X v tv) (hr : PPs X pos ks vs trs) :
    PPs X pos (some k :: ks) (v :: vs) ((tk, tv) :: trs) := fun pins s σ H Q I h =>
  pairTrees_cons_walk (thn (hk pins s σ H _ I h) fun u s1 ⟨x, H1, I1, rx, q1⟩ => thn (hv pins s1 σ H1 _ I1 q1) fun w2 s2 ⟨y, H2, I2, ry, q2⟩ =>
    thn (hr pins s2 σ H2 _ I2 q2) fun ws s3 ⟨ps, H3, I3, rel, q3⟩ => ⟨(x, y) :: ps, H3, I3, .cons ⟨rx, ry⟩ rel, q3⟩)
def mergeK (kvs more : List (Key × V)) : List (Key × V) := more.foldl (fun acc kv => putK acc kv.1 kv.2) kvs
theorem KV.merge : ∀ {more : List (Key × V)} {rs : List (Key × Value)} {kvs : List (Key × V)} {vs : List (Key × Value)}, KV more rs → KV kvs vs → KV (mergeK kvs more) (merged vs rs) := by
  intro more rs kvs vs r
  unfold KV at r
  induction r generalizing kvs vs with
  | nil => intro q; exact q
  | @cons p q ps qs h t ih =>
    intro r0
    have e : KV (putK kvs p.1 p.2) (stored vs q.1 q.2) := by
      have := r0.put p.1 h.2
      rw [← h.1]; exact this
    exact ih e
theorem length_mergeK : ∀ (more kvs : List (Key × V)), (mergeK kvs more).length ≤ kvs.length + more.length
  | [], kvs => by show kvs.length ≤ kvs.length + 0; omega
  | p :: r, kvs => by
    have h1 := length_mergeK r (putK kvs p.1 p.2)
    have h2 := length_putK kvs p.1 p.2
    show (mergeK (putK kvs p.1 p.2) r).length ≤ _
    rw [List.length_cons]; omega
theorem carries_of {P : Program} {w : World} : ∀ {kvs : List (Key × V)} {ws : List (Value × Value)}, VV (kvs.map fun kv => (kV kv.1, kv.2)) ws → ∃ rs, Carries (mixKind P w) ws rs ∧ KV kvs rs
  | [], _, r => by rw [List.map_nil] at r; cases r; exact ⟨[], True.intro, .nil⟩
  | p :: kvs, _, r => by
    rw [List.map_cons] at r
    cases r with
    | @cons a b as bs h t =>
      obtain ⟨rs, c, q⟩ := carries_of (P := P) (w := w) t
      obtain ⟨b1, b2⟩ := b
      exact ⟨(p.1, b2) :: rs, ⟨kV_is h.1, rfl, c⟩, .cons ⟨rfl, h.2⟩ q⟩
def tDisp (trs : List (TE × TE)) : TE := fun σ H Q => ∀ p, H p = none → tPairs trs σ (upd H p (.dK [])) fun ps H2 => H2 p = some (.dK []) ∧ ∃ kvs : List (Key × V), ps = kvs.map (fun kv => (kV kv.1, kv.2)) ∧ kvs.length ≤ 15 ∧ Q (.ref p) (upd H2 p (.dK (mergeK [] kvs)))
theorem pe_disp {X : Cx} {pos : Pos} {keys : List (Option Expr)} {values : List Expr} {trs : List (TE × TE)} (h : PPs X pos keys values trs) (hall : keys.all (·.isSome) = true) (hl : keys.length = values.length) (h0 : keys ≠ [])
    (h15 : keys.length ≤ 15) : PE X (.Dict keys values pos) (tDisp trs) := by
  intro pins s σ H Q I q
  have hn := I.hok.fresh (Nat.le_refl s.heap.objs.size)
  have I1 := I.laid (a := s.heap.objs.size) (o := .dK []) (h' := s.heap.push { cls := .type "dict", data := .dict #[] }) (t' := s.toks) (fun _ _ q => Heap.get?_push_of_some _ q) (Nat.le_refl _) (dk_empty s.heap I.big)
  refine wpAny_Dict_walk (knd := mixKind X.prog X.w) hall hl h0 h15 (thn (h pins _ σ _ _ I1 (q _ hn)) fun ws s2 ⟨ps, H2, I2, rel, e, kvs, ep, lk, q2⟩ => ?_)
  subst ep
  obtain ⟨rs, c, rk⟩ := carries_of (P := X.prog) (w := X.w) rel
  obtain ⟨z, hd, vs0, r0, dd⟩ := dk_of I2.hok e
  cases r0
  refine ⟨rs, c, dd, fun h' dd' hs => ⟨.ref s.heap.objs.size, _, ?_, rfl, q2⟩⟩
  have hz : (mergeK [] kvs).length ≤ sizeLine := by
    have h1 := length_mergeK kvs []
    rw [List.length_nil] at h1
    rw [sizeLine_eq]; omega
  have he : ∃ q, h'.get? s.heap.objs.size = some q := let ⟨q, _, _, hq, _⟩ := dd'; ⟨q, hq⟩
  exact d_write I2 (by rw [e]; exact True.intro) hs he (dk_new hz hd (rk.merge .nil) dd')
structure M1 (X : Cx) (o : Expr) (m : Str) (apos : Pos) (e : Expr) (cpos : Pos) : Prop where
  base : attributeBase o m X.env (eval o X.env) = eval o X.env
  few : ((backTo cpos (starEach [e] X.env)).all (fun x => !x.1) && (backToKw cpos (keywordEach [] X.env)).all (fun x => x.1.isSome)
    && decide (([e] : List Expr).length + ([] : List Keyword).length + (if ([] : List Keyword).isEmpty then 0 else 1) < 30)) = true
  line : (apos.endLine == cpos.line) = true
  trees : backTo cpos (starEach [e] X.env) = [(false, eval e X.env)]
structure M2 (X : Cx) (o : Expr) (m : Str) (apos : Pos) (e f : Expr) (cpos : Pos) : Prop where
  base : attributeBase o m X.env (eval o X.env) = eval o X.env
  few : ((backTo cpos (starEach [e, f] X.env)).all (fun x => !x.1) && (backToKw cpos (keywordEach [] X.env)).all (fun x => x.1.isSome)
    && decide (([e, f] : List Expr).length + ([] : List Keyword).length + (if ([] : List Keyword).isEmpty then 0 else 1) < 30)) = true
  line : (apos.endLine == cpos.line) = true
  trees : backTo cpos (starEach [e, f] X.env) = [(false, eval e X.env), (false, eval f X.env)]
def IsD (H : Hp) (a : Addr) : Prop := (∃ kvs, Rd H a (.dK kvs)) ∨ ∃ kvs, Rd H a (.dT kvs)
theorem isD_at {X : Cx} {pins : List (Addr × Obj)} {σ : St} {H : Hp} {s : Shared} {a : Addr} (I : Inv X pins σ H s) (d : IsD H a) :
    s.TypeIs (.ref a) "dict" ∧ (∀ b, Value.ref a = .ref b → ∃ ob, s.heap.get? b = some ob ∧ ob.dict = none) ∧ (a == sysModules) = false := by
  rcases d with ⟨kvs, e⟩ | ⟨kvs, e⟩
  · obtain ⟨_, hd, vs, _, dd⟩ := dk_rd I.hok e
    refine ⟨dd.typeIs, fun b q => ?_, hd⟩
    cases q
    obtain ⟨ob, _, _, h1, h2, _⟩ := dd
    exact ⟨ob, h1, h2.2.1⟩
  · obtain ⟨_, hd, xs, _, dd⟩ := dt_rd I.hok e
    refine ⟨dd.typeIs, fun b q => ?_, hd⟩
    cases q
    obtain ⟨ob, _, _, h1, h2, _⟩ := dd
    exact ⟨ob, h1, h2.2.1⟩
section
variable {X : Cx} {pins : List (Addr × Obj)} {σ : St} {H : Hp} {s : Shared} {a : Addr} {y d : V} {u r : Value} {o : Option V} {A : Around} {E : Value → Shared → Prop}
end
def tDGet1 (td ty : TE) : TE := fun σ H Q => td σ H fun x H1 => ∃ a, x = .ref a ∧ IsD H1 a ∧ ty σ H1 fun y H2 => ∃ o, DGet H2 a y o ∧ Q (o.getD .non) H2
def tDGet2 (td ty tx : TE) : TE := fun σ H Q => td σ H fun x H1 => ∃ a, x = .ref a ∧ IsD H1 a ∧ ty σ H1 fun y H2 => tx σ H2 fun z H3 => ∃ o, DGet H3 a y o ∧ Q (o.getD z) H3
def tDPop1 (td ty : TE) : TE := fun σ H Q => td σ H fun x H1 => ∃ a, x = .ref a ∧ IsD H1 a ∧ ty σ H1 fun y H2 => ∃ kvs k v, H2 a = some (.dK kvs) ∧ y = kV k ∧ valV kvs k = some v ∧ Q v (upd H2 a (.dK (dropK kvs k)))
def tDPop2 (td ty tx : TE) : TE := fun σ H Q => td σ H fun x H1 => ∃ a, x = .ref a ∧ IsD H1 a ∧ ty σ H1 fun y H2 => tx σ H2 fun z H3 => ∃ kvs k, H3 a = some (.dK kvs) ∧ y = kV k ∧
  (∀ v, valV kvs k = some v → Q v (upd H3 a (.dK (dropK kvs k)))) ∧ (valV kvs k = none → Q z H3)
section
variable {X : Cx} {o e f : Expr} {apos cpos : Pos} {td ty tx : TE}
end
section
variable {X : Cx} {pins : List (Addr × Obj)} {σ : St} {H : Hp} {s : Shared} {a : Addr} {kvs : List (Key × V)} {A : Around} {E : Value → Shared → Prop}
end
section
variable {X : Cx} {pins : List (Addr × Obj)} {σ : St} {H : Hp} {s : Shared} {a : Addr} {y : V} {u : Value} {A : Around} {E : Value → Shared → Prop}
end
end L2
namespace L2
open PySem PySem.Spec PyProof.Rows
section
variable {X : Cx}
end
section
variable {κ : Type} [DecidableEq κ]
end
end L2
end
section
set_option Elab.async false
set_option linter.all false
set_option maxRecDepth 100000
set_option maxHeartbeats 4000000
namespace Lw
open PySem PySem.Spec PyProof.Rows L2
theorem obj_some {P : Program} {w : World} {H : Hp} {h : Heap} {a : Addr} {o : HO} (x : ObjOk P w H h a o) : ∃ u, h.get? a = some u := by
  cases o with
  | lst xs => obtain ⟨_, _, _, _, e⟩ := x; exact ⟨_, e⟩
  | tup xs => obtain ⟨_, _, _, o, e, _⟩ := x; exact ⟨_, e⟩
  | dK kvs => obtain ⟨_, _, _, _, o, _, _, e, _⟩ := x; exact ⟨_, e⟩
  | dT kvs => obtain ⟨_, _, _, _, o, _, _, e, _⟩ := x; exact ⟨_, e⟩
  | set S n => obtain ⟨o, _, _, _, e, _⟩ := x; exact ⟨_, e⟩
  | ins C dx fs => obtain ⟨_, _, _, e, _⟩ := x; exact ⟨_, e⟩
  | own y => exact x
  | xd fs => obtain ⟨_, ⟨_, _, _, e, _⟩, _⟩ := x; exact ⟨_, e⟩
  | rng lo hi => obtain ⟨_, _, _, e⟩ := x; exact ⟨_, e⟩
  | frz ob u => exact ⟨_, x.1⟩
  | tbl ps => exact ⟨_, x⟩
  | met f y => exact ⟨_, x⟩
  | ext φ => exact x.2.1
structure Fly (P : Program) (w : World) (outer : List Env) (H : Hp) (s : Shared) (H' : Hp) (a : Addr) (cls : Value) (B : Heap) (a0 : Value) (s' : Shared) : Prop where
  os : s'.os = s.os
  bare : AllBare s'.gens
  un : Un (frs outer) [] H H' s.heap s'.heap
  hok : HOk P w H' s'.heap
  fresh : s.heap.get? a = none
  free : H' a = none
  fly : Heap.FlyingW B outer a cls a0 s'.heap
  trk : ∀ b o, H' b ≠ none → s'.heap.get? b = some o → B.get? b = some o
  old : ∀ b o, s.heap.get? b = some o → H b = none → b ∉ frs outer → B.get? b = some o
  any : ∀ b o, s.heap.get? b = some o → b ∉ frs outer → ∃ o', B.get? b = some o'
section
variable {P : Program} {w : World} {outer : List Env} {H H' : Hp} {s s' : Shared} {a : Addr} {cls a0 : Value} {B h5 : Heap}
theorem Fly.slots (F : Fly P w outer H s H' a cls B a0 s') (U : s'.heap.UpToSlots h5) {b : Addr} {o : Obj} (hb : b ∈ frs outer) (e : s'.heap.get? b = some o) : ∃ sl, h5.get? b = some { o with slots := sl } := by
  obtain ⟨_, o', e', nf⟩ := F.fly.2.2.1.mem hb
  rw [e] at e'
  cases e'
  exact U b o e nf
theorem Fly.un5 (F : Fly P w outer H s H' a cls B a0 s') (St : B.StaysIn h5) (U : s'.heap.UpToSlots h5) : Un (frs outer) [] H H' s.heap h5 where
  keep := fun b o e n hb _ => St b o (F.old b o e n hb)
  slot := fun b o e n hb hx => by
    obtain ⟨sl, e1⟩ := F.un.slot b o e n hb hx
    obtain ⟨sl2, e2⟩ := F.slots U hb e1
    exact ⟨sl2, e2⟩
  free := F.un.free
  there := fun b o e hx => by
    by_cases hb : b ∈ frs outer
    · obtain ⟨o', e1⟩ := F.un.there b o e hx
      obtain ⟨sl, e2⟩ := F.slots U hb e1
      exact ⟨_, e2⟩
    · obtain ⟨o', e1⟩ := F.any b o e hb
      exact ⟨o', St b o' e1⟩
  tups := F.un.tups
  frzs := F.un.frzs
  tbls := F.un.tbls
theorem Fly.hok5 (F : Fly P w outer H s H' a cls B a0 s') (St : B.StaysIn h5) : HOk P w H' h5 := fun b u e => by
  refine (F.hok b u e).stay (fun c v hc q => St c v (F.trk c v ?_ q)) (fun _ q => q) fun _ _ q => q
  rcases hc with z | z
  · rw [z, e]; simp
  · rw [z]; simp
theorem Fly.trk5 (F : Fly P w outer H s H' a cls B a0 s') (St : B.StaysIn h5) : ∀ b o, H' b ≠ none → h5.get? b = some o → B.get? b = some o := fun b o n e => by
  cases q : H' b with
  | none => exact absurd q n
  | some u =>
    obtain ⟨o1, e1⟩ := obj_some (F.hok b u q)
    have e2 := F.trk b o1 n e1
    have e3 := St b o1 e2
    rw [e] at e3
    cases e3
    exact e2
end
structure DefCx (X : Cx) : Prop where
  stk : X.stack = X.env :: X.outer
  fr : X.env.frame = some X.env.locals
  ex : X.ex = []
section
variable {X : Cx} {pins : List (Addr × Obj)} {σ : L2.St} {H H' : Hp} {s s' : Shared} {M : Model} {E : Value → Shared → Prop} {Q : Unit → Shared → Prop}
theorem not_stk (I : Inv X pins σ H s) {b : Addr} {o : Obj} (e : X.s₀.heap.get? b = some o) (hb : b ∉ X.fs) : b ∉ frs X.stack := fun z => by
  rcases List.mem_cons.mp (I.stkSub b z) with q | q
  · subst q
    exact Nat.lt_irrefl _ (Nat.lt_of_lt_of_le (Heap.lt_size e) I.ok.above)
  · exact hb q
theorem fresh_of (D : DefCx X) (I : Inv X pins σ H s) {a : Addr} (n : s.heap.get? a = none) : X.s₀.heap.get? a = none := by
  cases q : X.s₀.heap.get? a with
  | none => rfl
  | some o =>
    obtain ⟨o', e⟩ := I.base.there a o q (by rw [D.ex]; simp)
    rw [n] at e
    cases e
theorem fly_on {a : Addr} {cls a0 : Value} {B : Heap} (D : DefCx X) (I : Inv X pins σ H s) (F : Fly X.prog X.w X.stack H s H' a cls B a0 s')
    (k : ∀ s'', Fly X.prog X.w X.outer X.H₀ X.s₀ H' a cls B a0 s'' → Q () s'') : wpAny M X.A (leaving X.env (.ref a)) Q E s' := by
  have hfr : X.A.frames = some (X.env :: X.outer) := by rw [I.ok.frames, D.stk]
  have hfl := F.fly
  rw [D.stk] at hfl
  have hex : ∀ b : Addr, b ∉ X.ex := fun b => by rw [D.ex]; simp
  refine wpAny_leaves_onW hfr D.fr hfl fun h5 f5 u5 => k _ ?_
  have I5 : Inv X pins σ H' { s' with heap := h5 } := I.call' (s' := { s' with heap := h5 }) (ch := []) F.os (F.un5 f5.1 u5) (F.hok5 f5.1) F.bare fun b hb => absurd hb (by simp)
  refine ⟨I5.os, I5.bare, ?_, I5.hok, fresh_of D I F.fresh, F.free, f5, F.trk5 f5.1, fun b o e n hb => ?_, fun b o e hb => ?_⟩
  · have u := I5.base
    rw [D.ex] at u
    exact u
  · exact F.old b o (I.base.keep b o e n hb (hex b)) (I.base.free b o e n (hex b)) (not_stk I e hb)
  · obtain ⟨o1, e1⟩ := I.base.there b o e (hex b)
    exact F.any b o1 e1 (not_stk I e hb)
theorem fly_made {h' : Heap} {e : Addr} {cls : Value} {vs : List Value} (D : DefCx X) (I : Inv X pins σ H s) (hx : Heap.MadeExcOf s.heap h' e cls vs)
    (k : ∀ s'' B a0, Fly X.prog X.w X.outer X.H₀ X.s₀ H e cls B a0 s'' → Q () s'') : wpAny M X.A (leaving X.env (.ref e)) Q E { s with heap := h' } := by
  have hfr : X.A.frames = some (X.env :: X.outer) := by rw [I.ok.frames, D.stk]
  have hex : ∀ b : Addr, b ∉ X.ex := fun b => by rw [D.ex]; simp
  have hB : ∀ b o, s.heap.get? b = some o → b ∉ frs X.stack → (PySem.W.hideAll s.heap (frs X.stack)).get? b = some o := fun b o q nm => PySem.W.hideAll_get _ q nm
  have hl : s.heap.FunFrames (PySem.W.hideAll s.heap (frs X.stack)) (X.env :: X.outer) := by
    have z := PySem.W.funFrames_hide (as := frs X.stack) I.stack fun env he b hb => List.mem_filterMap.mpr ⟨env, he, hb⟩
    rw [D.stk] at z ⊢
    exact z
  have tn : ∀ b, H b ≠ none → b ∉ frs X.stack := fun b n z => n (I.stkFree b z)
  refine wpAny_leaves_madeW (s := { s with heap := h' }) hfr D.fr (fun b o q => PySem.W.of_hideAll _ q) hl hx fun h5 t f5 _ _ u5 => k _ (PySem.W.hideAll s.heap (frs X.stack)) (.ref t) ?_
  have St := f5.1
  have un5 : Un (frs X.stack) [] H H s.heap h5 := by
    have sl : ∀ b o, s.heap.get? b = some o → b ∈ frs X.stack → ∃ sl, h5.get? b = some { o with slots := sl } := fun b o e hb => by
      obtain ⟨_, o', e', nf⟩ := I.stack.mem hb
      rw [e] at e'
      cases e'
      exact u5 b o (hx.keeps b o e) nf
    refine ⟨fun b o e n hb _ => St b o (hB b o e hb), fun b o e n hb _ => sl b o e hb, fun _ _ _ n _ => n, fun b o e _ => ?_, fun _ _ q => q, fun _ _ _ q => q, fun b ps q => ⟨#[], by rw [q]; simp⟩⟩
    by_cases hb : b ∈ frs X.stack
    · obtain ⟨z, e1⟩ := sl b o e hb
      exact ⟨_, e1⟩
    · exact ⟨o, St b o (hB b o e hb)⟩
  have hok5 : HOk X.prog X.w H h5 := fun b u e => by
    refine (I.hok b u e).stay (fun c v hc q => St c v (hB c v q (tn c ?_))) (fun _ q => q) fun _ _ q => q
    rcases hc with z | z
    · rw [z, e]; simp
    · rw [z]; simp
  have I5 : Inv X pins σ H { s with heap := h5 } := I.call' (s' := { s with heap := h5 }) (ch := []) rfl un5 hok5 I.bare fun b hb => absurd hb (by simp)
  refine ⟨I5.os, I5.bare, ?_, hok5, fresh_of D I hx.new, ?_, f5, fun b o n q => ?_, fun b o e n hb => ?_, fun b o e hb => ?_⟩
  · have u := I5.base
    rw [D.ex] at u
    exact u
  · cases q : H e with
    | none => rfl
    | some u =>
      obtain ⟨o, z⟩ := obj_some (I.hok e u q)
      rw [hx.new] at z
      cases z
  · cases z : H b with
    | none => exact absurd z n
    | some u =>
      obtain ⟨o1, e1⟩ := obj_some (I.hok b u z)
      have e2 := hB b o1 e1 (tn b n)
      have e3 := St b o1 e2
      have q' : h5.get? b = some o := q
      rw [q'] at e3
      cases e3
      exact e2
  · exact hB b o (I.base.keep b o e n hb (hex b)) (not_stk I e hb)
  · obtain ⟨o1, e1⟩ := I.base.there b o e (hex b)
    exact ⟨o1, hB b o1 e1 (not_stk I e hb)⟩
end
def CXE (P : Program) (w : World) : CXT := fun outer H s E e s' => ∃ a cls H' B a0, e = .ref a ∧ Fly P w outer H s H' a cls B a0 s' ∧ E cls none H'
theorem cxe0 {P : Program} {w : World} {outer : List Env} {H : Hp} {s s' : Shared} {e : Value} (h : CXE P w outer H s (fun _ _ _ => False) e s') : False := by
  obtain ⟨_, _, _, _, _, _, _, z⟩ := h
  exact z
theorem passX0 {X : Cx} : Passes (CXE X.prog X.w) X E0 := fun _ _ _ _ _ _ _ h => (cxe0 h).elim
section
variable {P : Program} {w : World} {K : PySem.W.Frag} {mg : Str → Option Value} {base : Heap} {N : List Str} {qual : Str} {scope : Scope} {f : Addr} {cd : Value} {A : Around} {outer : List Env} {s₀ : Shared} {H₀ : Hp} {E : XK}
theorem passX : Passes (CXE P w) (cxOf (CXE P w) P w K mg base N qual scope f cd A outer s₀ H₀ E) E := by
  intro pins σ H1 s1 e s' I h
  obtain ⟨a, cls, H', B, a0, rfl, F, q⟩ := h
  exact fly_on (X := cxOf (CXE P w) P w K mg base N qual scope f cd A outer s₀ H₀ E) ⟨rfl, rfl, rfl⟩ I F fun s'' F' => ⟨a, cls, H', B, a0, rfl, F', q⟩
theorem raiseX {pins : List (Addr × Obj)} {σ : L2.St} {H : Hp} {s : Shared} {h' : Heap} {e : Addr} {cls : Value} {vs : List Value} (I : Inv (cxOf (CXE P w) P w K mg base N qual scope f cd A outer s₀ H₀ E) pins σ H s) (hx : Heap.MadeExcOf s.heap h' e cls vs) (q : E cls none H) :
    (cxOf (CXE P w) P w K mg base N qual scope f cd A outer s₀ H₀ E).xe (.ref e) { s with heap := h' } :=
  fly_made (X := cxOf (CXE P w) P w K mg base N qual scope f cd A outer s₀ H₀ E) ⟨rfl, rfl, rfl⟩ I hx fun s'' B a0 F' => ⟨e, cls, H, B, a0, rfl, F', q⟩
end
end Lw
end
section
set_option Elab.async false
set_option linter.all false
set_option maxRecDepth 100000
set_option maxHeartbeats 4000000
namespace Lw
open PySem PySem.Spec PyProof.Rows L2
def Br (b : Bool) (A B : Prop) : Prop := (b = true → A) ∧ (b = false → B)
theorem br_eq (b : Bool) (A B : Prop) : Br b A B = (if b = true then A else B) := by
  unfold Br
  cases b <;> simp
def dVar (i : Nat) : TE := fun σ H Q => match σ[i]? with
  | some (some v) => Q v H
  | _ => False
theorem dVar_eq (i : Nat) : dVar i = tVar i := by
  funext σ H Q
  apply propext
  unfold dVar tVar
  cases h : σ[i]? with
  | none => simp
  | some o => cases o <;> simp
def dI (C : Int → Int → Prop) (g : Int → Int → V) : R2 := fun x y H Q => match x, y with
  | .int i, .int j => C i j ∧ Q (g i j) H
  | _, _ => False
def dI0 (g : Int → Int → V) : R2 := fun x y H Q => match x, y with
  | .int i, .int j => Q (g i j) H
  | _, _ => False
def dU (g : Int → V) : V → Hp → VK → Prop := fun x H Q => match x with
  | .int i => Q (g i) H
  | _ => False
def dTest (t : TE) : TT := fun σ H Q => t σ H fun x H' => match x with
  | .bl k => Q k H'
  | _ => False
theorem dTest_eq (t : TE) : dTest t = tTest t := by
  funext σ H Q
  unfold dTest tTest
  congr 1
  funext x H'
  apply propext
  cases x <;> simp
theorem dTest_eqB (t : TE) : dTest t = tB t := dTest_eq t
def dAnd (t u : TT) : TT := fun σ H Q => t σ H fun c H1 => Br c (u σ H1 Q) (Q false H1)
def dOr (t u : TT) : TT := fun σ H Q => t σ H fun c H1 => Br c (Q true H1) (u σ H1 Q)
theorem dAnd_eq (t u : TT) : dAnd t u = tAnd t u := by
  funext σ H Q
  unfold dAnd tAnd
  simp only [br_eq]
theorem dOr_eq (t u : TT) : dOr t u = tOr t u := by
  funext σ H Q
  unfold dOr tOr
  simp only [br_eq]
def dAndV (ta tb : TE) : TE := fun σ H Q => ta σ H fun x H1 => match x with
  | .bl c => Br c (tb σ H1 Q) (Q (.bl false) H1)
  | _ => False
def dOrV (ta tb : TE) : TE := fun σ H Q => ta σ H fun x H1 => match x with
  | .bl c => Br c (Q (.bl true) H1) (tb σ H1 Q)
  | _ => False
def dNotV (ta : TE) : TE := fun σ H Q => ta σ H fun x H1 => match x with
  | .bl c => Q (.bl (!c)) H1
  | _ => False
theorem dAndV_eq (t u : TE) : dAndV t u = tAndV t u := by
  funext σ H Q
  unfold dAndV tAndV
  congr 1
  funext x H'
  apply propext
  cases x <;> simp [br_eq]
theorem dNotV_eq (t : TE) : dNotV t = tNotV t := by
  funext σ H Q
  unfold dNotV tNotV
  congr 1
  funext x H'
  apply propext
  cases x <;> simp
def dIfS (c : TT) (t u : TS) : TS := fun D σ H => c σ H fun b H1 => Br b (t D σ H1) (u D σ H1)
theorem dIfS_eq (c : TT) (t u : TS) : dIfS c t u = tIfS c t u := by
  funext D σ H
  unfold dIfS tIfS
  simp only [br_eq]
def dIf (t : TT) (ta tb : TE) : TE := fun σ H Q => t σ H fun c H1 => Br c (ta σ H1 Q) (tb σ H1 Q)
section
variable {X : Cx} {a b c : Expr} {ta tb tc : TE} {pos : Pos} {tA tB' : TT} {rest : List Expr}
theorem dv (i : Nat) {x : Str} {pos : Pos} (hN : X.N[i]? = some x := by rfl) (hv : Vis X.env.scope x := by first | exact Or.inl rfl | exact Or.inr (Or.inl rfl) | exact Or.inr (Or.inr rfl)) (hd : (x == ("__debug__" : Str)) = false := by decide)
    (hcd : (x == ("__classdict__" : Str)) = false := by decide) : PE X (.Name x pos) (dVar i) := by
  rw [dVar_eq]
  exact pe_var hN hv hd hcd
theorem opD {f : Value → Value → Sem Value} {C : Int → Int → Prop} {g : Int → Int → V} (h : OpR X f (rI C g)) : OpR X f (dI C g) := by
  intro pins s σ H x y v u Q I rx ry q
  cases x <;> cases y <;> first
    | exact False.elim q
    | exact h _ _ _ _ _ _ _ _ _ I rx ry ⟨_, _, rfl, rfl, q.1, q.2⟩
theorem opD0 {f : Value → Value → Sem Value} {g : Int → Int → V} (h : OpR X f (rI0 g)) : OpR X f (dI0 g) := by
  intro pins s σ H x y v u Q I rx ry q
  cases x <;> cases y <;> first
    | exact False.elim q
    | exact h _ _ _ _ _ _ _ _ _ I rx ry ⟨_, _, rfl, rfl, q⟩
theorem unD {f : Value → Sem Value} {g : Int → V} (h : UnR X f (rU g)) : UnR X f (dU g) := by
  intro pins s σ H x v Q I rx q
  cases x <;> first
    | exact False.elim q
    | exact h _ _ _ _ _ _ _ I rx ⟨_, rfl, q⟩
def Bd (n : Nat) (x : Int) : Prop := x.natAbs < 2 ^ n
theorem Bd.bits {n : Nat} {x : Int} (h : Bd n x) : Builtin.Int.intBits x ≤ n := intBits_le_iff.mpr h
def COk (i j : Int) : Prop := (Bd 4000 i ∧ Bd 4000 j) ∨ CMul i j
theorem COk.ok {i j : Int} (h : COk i j) : IntMulOk i j := by
  rcases h with ⟨h1, h2⟩ | h
  · exact PySem.IntMulOk.of_bits (Nat.le_trans h1.bits (by decide)) (Nat.le_trans h2.bits (by decide))
  · exact h.ok
theorem pow_log {n : Nat} {x : Int} (h : Bd n x) (h0 : 0 < n) : x.natAbs.log2 < n := by
  by_cases z : x.natAbs = 0
  · rw [z]
    simpa using h0
  · exact (Nat.log2_lt z).mpr h
theorem o_add : OpR X (binaryOp .Add) (dI0 fun i j => .int (i + j)) := opD0 op_add
theorem o_sub : OpR X (binaryOp .Sub) (dI0 fun i j => .int (i - j)) := opD0 op_sub
theorem o_mul : OpR X (binaryOp .Mult) (dI COk fun i j => .int (i * j)) := opD (opI fun _ _ _ _ _ _ _ hc q => mul_int q hc.ok)
theorem o_div : OpR X (binaryOp .FloorDiv) (dI (fun _ j => 0 < j ∧ Bd 4000 j) fun i j => .int (i / j)) := opD (opI fun i j _ _ _ _ _ hc q => by
  have h1 : (0 : Int) < j := hc.1
  exact floordiv_int (by omega) (by rw [Int.fdiv_eq_ediv_of_nonneg i (by omega)]; exact q) (.inl (PyProof.noPylong_of_log2 (Nat.lt_trans (pow_log hc.2 (by decide)) (by decide)))))
theorem o_divN : OpR X (binaryOp .FloorDiv) (dI (fun _ j => j ≠ 0 ∧ Bd 4000 j) fun i j => .int (i.fdiv j)) := opD (opI fun i j _ _ _ _ _ hc q => by
  exact floordiv_int hc.1 q (.inl (PyProof.noPylong_of_log2 (Nat.lt_trans (pow_log hc.2 (by decide)) (by decide)))))
theorem o_mod : OpR X (binaryOp .Mod) (dI (fun _ j => 0 < j) fun i j => .int (i % j)) := opD op_mod
theorem o_modN : OpR X (binaryOp .Mod) (dI (fun _ j => j ≠ 0) fun i j => .int (i.fmod j)) := opD op_modN
theorem o_lt : OpR X (compareOp .Lt) (dI0 fun i j => .bl (decide (i < j))) := opD0 op_lt
theorem o_le : OpR X (compareOp .LtE) (dI0 fun i j => .bl (decide (i ≤ j))) := opD0 op_le
theorem u_neg : UnR X (unaryOp .USub) (dU fun i => .int (-i)) := unD un_neg
def dEq : R2 := fun x y H Q => match x, y with
  | .int i, .int j => Q (.bl (decide (i = j))) H
  | .bl i, .bl j => Q (.bl (i == j)) H
  | .str i, .str j => Q (.bl (decide (i = j))) H
  | _, _ => False
def dNe : R2 := fun x y H Q => match x, y with
  | .int i, .int j => Q (.bl (!decide (i = j))) H
  | .bl i, .bl j => Q (.bl (i != j)) H
  | .str i, .str j => Q (.bl (!decide (i = j))) H
  | _, _ => False
theorem o_eq : OpR X (compareOp .Eq) dEq := by
  intro pins s σ H x y v u Q I rx ry q
  cases x <;> cases y <;> first
    | exact False.elim q
    | (refine op_eq _ _ _ _ _ _ _ _ _ I rx ry ⟨rfl, ?_⟩
       have e : ∀ (i j : Int), decide (V.int i = V.int j) = decide (i = j) := fun i j => by simp
       have e2 : ∀ (i j : Str), decide (V.str i = V.str j) = decide (i = j) := fun i j => by simp
       first
         | (rw [e]; exact q)
         | (rw [e2]; exact q)
         | (rw [dec_bl]; exact q))
theorem o_ne : OpR X (compareOp .NotEq) dNe := by
  intro pins s σ H x y v u Q I rx ry q
  cases x <;> cases y <;> first
    | exact False.elim q
    | (refine op_ne _ _ _ _ _ _ _ _ _ I rx ry ⟨rfl, ?_⟩
       have e : ∀ (i j : Int), decide (V.int i = V.int j) = decide (i = j) := fun i j => by simp
       have e2 : ∀ (i j : Str), decide (V.str i = V.str j) = decide (i = j) := fun i j => by simp
       first
         | (rw [e]; exact q)
         | (rw [e2]; exact q)
         | (rw [dec_bl]; exact q))
theorem t_cmp {op : CmpOp} {r : R2} (ho : OpR X (compareOp op) r) (ha : PE X a ta) (hb : PE X b tb) (hm : behindInMarks op b = false) : PT X (.Compare a [op] [b] pos) (dTest (tOp r ta tb)) := by
  rw [dTest_eq]
  exact pt_cmpR ho ha hb hm
theorem t_isN {j pos'} (ha : PE X a ta) : PT X (.Compare a [.Is] [.Constant .none j pos'] pos) (dTest (tIsN ta)) := by
  rw [dTest_eqB]
  exact pt_cmp (pc_isN ha)
theorem t_val {e : Expr} {t : TE} (h : PE X e t) (he : ∀ whole, isTrue e X.env whole = (do let v ← whole; standAt e.pos; holding [v] (truthy v)) := by intro _; rfl) : PT X e (dTest t) := by
  rw [dTest_eqB]
  exact pt_val h he
theorem w_and (ha : PT X a tA) (hb : PW X (.BoolOp .And (b :: rest) pos) tB') : PW X (.BoolOp .And (a :: b :: rest) pos) (dAnd tA tB') := by
  rw [dAnd_eq]
  exact pw_and ha hb
theorem w_or (ha : PT X a tA) (hb : PW X (.BoolOp .Or (b :: rest) pos) tB') : PW X (.BoolOp .Or (a :: b :: rest) pos) (dOr tA tB') := by
  rw [dOr_eq]
  exact pw_or ha hb
theorem e_and (ha : PE X a ta) (hb : PE X (.BoolOp .And (b :: rest) pos) tb) : PE X (.BoolOp .And (a :: b :: rest) pos) (dAndV ta tb) := by
  rw [dAndV_eq]
  exact pe_and ha hb
theorem e_not (ha : PE X a ta) : PE X (.UnaryOp .Not a pos) (dNotV ta) := by
  rw [dNotV_eq]
  exact pe_not ha
theorem s_if {c : Expr} {a b : List Stmt} {tc : TT} {t u : TS} (hc : PT X c tc) (ha : PSs X a t) (hb : PSs X b u) : PS X (.If c a b pos) (dIfS tc t u) := by
  rw [dIfS_eq]
  exact ps_if hc ha hb
def tCut (R : L2.St → Hp → Prop) (t u : TS) : TS := fun D σ H => t { D with nx := R } σ H ∧ ∀ σ' H', R σ' H' → u D σ' H'
theorem ss_cut (R : L2.St → Hp → Prop) {st : Stmt} {r : List Stmt} {t u : TS} (h1 : PS X st t) (h2 : PSs X r u) : PSs X (st :: r) (tCut R t u) := by
  intro pins s σ H D I h
  refine wpAny_execs_cons (thn (h1 pins s σ H { D with nx := R } I h.1) fun f s1 q => ?_)
  cases f with
  | next =>
    obtain ⟨σ', H', I', q⟩ := q
    exact h2 pins s1 σ' H' D I' (h.2 σ' H' q)
  | ret v => exact q
  | brk => exact q
  | cont => exact q
structure Cal (P : Program) (w : World) (K : PySem.W.Frag) (mg : Str → Option Value) (base : Heap) (x : Str) (ps : List Str) (k : Nat) (sp : Sp) : Prop where
  ex : ∃ (f : Addr) (fd : FuncData), mg x = some (.ref f) ∧ PySem.W.keepIn K (.ref f) = true ∧ Binds K fd ps [] ∧ FnOk P w K mg base (CXE P w) k f fd ps sp ∧
    ∃ (oc : Value) (od : Option Addr) (osl : Array (Option Value)), K.lookup f = some ⟨oc, od, .func fd, osl⟩
def dCall (sp : Sp) (t : TA) : TE := fun σ H Q => t σ H fun vs H1 => sp vs H1 Q E0
theorem dCall_eq (sp : Sp) (t : TA) : dCall sp t = tCall sp [] E0 t := by
  funext σ H Q
  unfold dCall tCall
  simp only [List.append_nil]
theorem e_call {x : Str} {ps : List Str} {k k' : Nat} {sp : Sp} {p : Pos} {e : Expr} {es : List Expr} {t : TA} (C : Cal X.prog X.w X.K X.mg X.base x ps k sp) (hr : Room k' X.A) (hk : k ≤ k') (hg : Gl X x)
    (ha : PA X (e :: es) t) (hdb : (x == ("__debug__" : Str)) = false := by decide) (he : starEach (e :: es) X.env = (false, eval e X.env) :: starEach es X.env := by rfl) (hpl : (backTo pos (starEach es X.env)).any (·.1) = false := by rfl) :
    PE X (.Call (.Name x p) (e :: es) [] pos) (dCall sp t) := by
  obtain ⟨f, fd, h1, h2, h3, h4, _⟩ := C.ex
  rw [dCall_eq]
  exact pe_call (h4.mono hk) hr hg h1 h2 h3 .nil passX0 ha hdb he hpl
def lenOk (xs : List V) : Bool := Nat.ble xs.length 1000
theorem lenOk_le {xs : List V} (h : lenOk xs = true) : xs.length ≤ sizeLine := Nat.le_trans (Nat.le_of_ble_eq_true h) (by decide)
def dTup (t : TA) : TE := fun σ H Q => t σ H fun xs H1 => match lenOk xs with
  | true => ∀ p H', Same H1 H' → H' p = some (.tup xs) → Q (.ref p) H'
  | false => False
def dLst (t : TA) : TE := fun σ H Q => t σ H fun xs H1 => match lenOk xs with
  | true => ∀ p H', Same H1 H' → H' p = some (.lst xs) → Q (.ref p) H'
  | false => False
theorem same_upd {H : Hp} {p : Addr} {o : HO} (h : H p = none) : Same H (upd H p o) := fun b u e => by
  rw [upd_ne (ne_of_none e h)]
  exact e
theorem e_tup {es : List Expr} {t : TA} {x1} (h : PA X es t) : PE X (.Tuple es x1 pos) (dTup t) := by
  intro pins s σ H Q I hq
  refine wpAny_Tuple_spliced (thn (h pos pins s σ H _ I hq) fun us s1 ⟨xs, H1, I1, r, q⟩ => ?_)
  cases hl : lenOk xs with
  | false =>
    have q' : (match lenOk xs with | true => _ | false => False : Prop) := q
    rw [hl] at q'
    exact q'.elim
  | true =>
    have z := lenOk_le hl
    have q' : (match lenOk xs with | true => ∀ p H', Same H1 H' → H' p = some (.tup xs) → Q (.ref p) H' | false => False : Prop) := q
    rw [hl] at q'
    refine ⟨by rw [← r.length]; exact z, ?_⟩
    have hf : H1 s1.heap.objs.size = none := I1.hok.fresh (Nat.le_refl _)
    refine ⟨.ref s1.heap.objs.size, upd H1 s1.heap.objs.size (.tup xs), I1.laid (t' := s1.toks) (fun b u e => Heap.get?_push_of_some _ e) (Nat.le_refl _) ?_, rfl, q' _ _ (same_upd hf) upd_same⟩
    exact ⟨z, us, r, ⟨_, Heap.get?_push_size _ rfl, rfl, _, rfl⟩⟩
theorem e_lst {es : List Expr} {t : TA} (h : PA X es t) : PE X (.List es pos) (dLst t) := by
  intro pins s σ H Q I hq
  refine wpAny_List_spliced (thn (h pos pins s σ H _ I hq) fun us s1 ⟨xs, H1, I1, r, q⟩ => ?_)
  cases hl : lenOk xs with
  | false =>
    have q' : (match lenOk xs with | true => _ | false => False : Prop) := q
    rw [hl] at q'
    exact q'.elim
  | true =>
    have z := lenOk_le hl
    have q' : (match lenOk xs with | true => ∀ p H', Same H1 H' → H' p = some (.lst xs) → Q (.ref p) H' | false => False : Prop) := q
    rw [hl] at q'
    refine ⟨by rw [← r.length]; exact z, ?_⟩
    have hf : H1 s1.heap.objs.size = none := I1.hok.fresh (Nat.le_refl _)
    refine ⟨.ref s1.heap.objs.size, upd H1 s1.heap.objs.size (.lst xs), I1.laid (t' := s1.toks) (fun b u e => Heap.get?_push_of_some _ e) (Nat.le_refl _) ?_, rfl, q' _ _ (same_upd hf) upd_same⟩
    exact ⟨z, us, 0, r, Heap.get?_push_size _ rfl⟩
def nthI (xs : List V) : Int → Option V
  | .ofNat n => xs[n]?
  | .negSucc _ => none
theorem nthI_at {xs : List V} {i : Int} {v : V} (h : nthI xs i = some v) : atI xs i = some v := by
  cases i with
  | ofNat n => exact atI_nat h
  | negSucc n => cases h
def dIxT : R2 := fun x y H Q => match x, y with
  | .ref p, .int i => ∃ xs, H p = some (.tup xs) ∧ match nthI xs i with
    | some v => Q v H
    | none => False
  | _, _ => False
def dIxL (K : PySem.W.Frag) : R2 := fun x y H Q => match x, y with
  | .ref p, .int i => ∃ xs v, SqL K H p xs ∧ atI xs i = some v ∧ Q v H
  | _, _ => False
theorem i_tup : IxR X dIxT := by
  intro value slice pins s σ H x y v u Q I rx ry h hs
  cases x <;> cases y <;> first
    | exact False.elim h
    | (obtain ⟨xs, e, q⟩ := h
       cases z : nthI xs _ with
       | none =>
         rw [z] at q
         exact q.elim
       | some w =>
         rw [z] at q
         exact ix_tup value slice pins s σ H _ _ v u Q I rx ry ⟨_, xs, _, w, rfl, rfl, SqT.of e, nthI_at z, q⟩ hs)
theorem i_lst : IxR X (dIxL X.K) := by
  intro value slice pins s σ H x y v u Q I rx ry h hs
  cases x <;> cases y <;> first
    | exact False.elim h
    | (obtain ⟨xs, w, e, z, q⟩ := h
       exact ix_list value slice pins s σ H _ _ v u Q I rx ry ⟨_, xs, _, w, rfl, rfl, e, z, q⟩ hs)
theorem e_ty (T : String) {x : Str} (hg : Gl X x) (hm : X.mg x = none) (hv : bootBuiltins x = some (.type T)) (hn : x ≠ "__name__" := by decide) (hd : (x == ("__debug__" : Str)) = false := by decide) : PE X (.Name x pos) (tC (.ty T)) :=
  pe_bltn hg hm hv rfl hn hd
def dAbs : List V → Hp → VK → Prop := fun xs H Q => match xs with
  | [.int i] => Q (.int (i.natAbs : Int)) H
  | _ => False
theorem c_abs : CallR X (.builtin "abs") dAbs := by
  intro pins s σ H xs us Q I r h
  match xs, h with
  | [.int i], h =>
    have e : (if i < 0 then -i else i) = (i.natAbs : Int) := by split <;> omega
    exact call_abs pins s σ H _ us Q I r ⟨i, rfl, by rw [e]; exact h⟩
def dLen (K : PySem.W.Frag) : List V → Hp → VK → Prop := fun xs H Q => match xs with
  | [.ref p] => ∃ ys, (SqL K H p ys ∨ SqT K H p ys) ∧ Q (.int ys.length) H
  | [.str z] => z.length ≤ sizeLine ∧ Q (.int z.length) H
  | _ => False
theorem c_len : CallR X (.builtin "len") (dLen X.K) := by
  intro pins s σ H xs us Q I r h
  match xs, h with
  | [.ref p], ⟨ys, h1, q⟩ => exact call_len_seq pins s σ H _ us Q I r ⟨p, ys, rfl, h1, q⟩
  | [.str z], ⟨h1, q⟩ => exact call_len_str pins s σ H _ us Q I r ⟨z, rfl, h1, q⟩
def tyB (t c : String) : Option Bool :=
  if t = c then some true else if t = "bool" ∧ c = "int" then some true
  else if (t = "int" ∨ t = "bool" ∨ t = "str" ∨ t = "tuple" ∨ t = "list" ∨ t = "dict" ∨ t = "NoneType") ∧ (c = "int" ∨ c = "bool" ∨ c = "str" ∨ c = "tuple" ∨ c = "list") then some false else none
def tyHO : HO → Option String
  | .lst _ => some "list"
  | .frz _ (.lst _) => some "list"
  | .tup _ => some "tuple"
  | .dK _ => some "dict"
  | .dT _ => some "dict"
  | _ => none
def dIsi : List V → Hp → VK → Prop := fun xs H Q => match xs with
  | [.non, .ty c] => ∃ b, tyB "NoneType" c = some b ∧ Q (.bl b) H
  | [.bl _, .ty c] => ∃ b, tyB "bool" c = some b ∧ Q (.bl b) H
  | [.int _, .ty c] => ∃ b, tyB "int" c = some b ∧ Q (.bl b) H
  | [.str _, .ty c] => ∃ b, tyB "str" c = some b ∧ Q (.bl b) H
  | [.ref p, .ty c] => ∃ u b t, H p = some u ∧ tyHO u = some t ∧ tyB t c = some b ∧ Q (.bl b) H
  | _ => False
theorem kit_tyB (K : PySem.W.Frag) {t c : String} {b : Bool} (h : tyB t c = some b) : PySem.W.kitOne K (.type t) (.type c) = some b := by
  unfold tyB at h
  split at h
  · rename_i e
    subst e
    cases h
    unfold PySem.W.kitOne
    rw [if_pos (by simp)]
  · split at h
    · rename_i e
      obtain ⟨rfl, rfl⟩ := e
      cases h
      kernel_rfl
    · split at h
      · rename_i e1 e2 e
        cases h
        obtain ⟨ht, hc⟩ := e
        rcases ht with rfl | rfl | rfl | rfl | rfl | rfl | rfl <;> rcases hc with rfl | rfl | rfl | rfl | rfl <;> first
          | exact absurd rfl e1
          | exact absurd ⟨rfl, rfl⟩ e2
          | kernel_rfl
      · cases h
theorem c_isi : CallR X (.builtin "isinstance") dIsi := by
  intro pins s σ H xs us Q I r h
  match xs, h with
  | [.non, .ty c], ⟨b, e, q⟩ =>
    obtain ⟨u, w', rfl, r1, r2⟩ := vals2 r
    cases (show w' = Value.type c from r2)
    exact isinst_ok I r1 .non (kit_tyB X.K e) fun tk => ⟨.bl b, H, I.tok _, rfl, q⟩
  | [.bl y, .ty c], ⟨b, e, q⟩ =>
    obtain ⟨u, w', rfl, r1, r2⟩ := vals2 r
    cases (show w' = Value.type c from r2)
    exact isinst_ok I r1 (.bl y) (kit_tyB X.K e) fun tk => ⟨.bl b, H, I.tok _, rfl, q⟩
  | [.int y, .ty c], ⟨b, e, q⟩ =>
    obtain ⟨u, w', rfl, r1, r2⟩ := vals2 r
    cases (show w' = Value.type c from r2)
    exact isinst_ok I r1 (.int y) (kit_tyB X.K e) fun tk => ⟨.bl b, H, I.tok _, rfl, q⟩
  | [.str y, .ty c], ⟨b, e, q⟩ =>
    obtain ⟨u, w', rfl, r1, r2⟩ := vals2 r
    cases (show w' = Value.type c from r2)
    exact isinst_ok I r1 (.str y) (kit_tyB X.K e) fun tk => ⟨.bl b, H, I.tok _, rfl, q⟩
  | [.ref p, .ty c], ⟨o, b, t, e1, e2, e, q⟩ =>
    obtain ⟨u, w', rfl, r1, r2⟩ := vals2 r
    cases (show w' = Value.type c from r2)
    have ty : TyOf X.K H (.ref p) (.type t) := by
      cases o with
      | lst ys => cases e2; exact .lst e1
      | tup ys => cases e2; exact .tup e1
      | dK ys => cases e2; exact .dK e1
      | dT ys => cases e2; exact .dT e1
      | frz ob u =>
        cases u with
        | lst ys => cases e2; exact .frz e1
        | _ => cases e2
      | _ => cases e2
    exact isinst_ok I r1 ty (kit_tyB X.K e) fun tk => ⟨.bl b, H, I.tok _, rfl, q⟩
end
section
variable {X : Cx} {pos : Pos}
def dWhile (c : TT) (tb : TS) : TS := fun D σ H => ∃ W : Nat → L2.St → Hp → Prop, (∃ m, W m σ H) ∧ ∀ m σ H, W m σ H →
  c σ H fun b H1 => Br b (tb { D with nx := fun σ' H' => ∃ m', m' < m ∧ W m' σ' H', ct := fun σ' H' => ∃ m', m' < m ∧ W m' σ' H', bk := D.nx } σ H1) (D.nx σ H1)
theorem s_while {c : Expr} {body : List Stmt} {tc : TT} {tb : TS} (hp : PassesOwn (model X.prog X.w) X.A X.env X.xe) (hc : PT X c tc) (hb : PSs X body tb) : PS X (.While c body [] pos) (dWhile tc tb) := by
  intro pins s σ H D I h
  obtain ⟨W, ⟨m0, w0⟩, turn⟩ := h
  refine wpAny_While (codeAny_whileLoop (fun n s' => ∃ σ' H', Inv X pins σ' H' s' ∧ W n σ' H') ?_ m0 ⟨σ, H, I, w0⟩)
  rintro n s1 ⟨σ1, H1, I1, w1⟩
  refine wpAny_passesOwn hp (thn (hc pins s1 σ1 H1 _ I1 (turn n σ1 H1 w1)) fun b s2 ⟨H2, I2, q2⟩ => ?_)
  cases b with
  | true =>
    have q2 := q2.1 rfl
    rw [if_pos rfl]
    refine wpAny_passesOwn hp (thn (hb pins s2 σ1 H2 _ I2 q2) fun f s3 q3 => ?_)
    cases f with
    | next =>
      obtain ⟨σ3, H3, I3, m', hm, w3⟩ := q3
      exact ⟨m', hm, σ3, H3, I3, w3⟩
    | cont =>
      obtain ⟨σ3, H3, I3, m', hm, w3⟩ := q3
      exact ⟨m', hm, σ3, H3, I3, w3⟩
    | brk => exact q3
    | ret v => exact q3
  | false =>
    rw [if_neg Bool.false_ne_true]
    exact wpAny_execs_nil ⟨σ1, H2, I2, q2.2 rfl⟩
end
structure Dfn (K : PySem.W.Frag) (mg : Str → Option Value) (x : Str) (st : Stmt) (ps : List Str) : Prop where
  ex : ∃ (f : Addr) (fd : FuncData), Fun K x x st f fd ∧ mg x = some (.ref f) ∧ Binds K fd ps []
section
variable {P : Program} {w : World} {K : PySem.W.Frag} {mg : Str → Option Value} {base : Heap}
theorem Dfn.calX {x : Str} {st : Stmt} {N ps : List Str} {k : Nat} {sp : Sp} (d : Dfn K mg x st ps) (S : FnScope N ps (defScope st)) (len : ∀ vs H Q E, sp vs H Q E → vs.length = ps.length)
    (hbody : ∀ (f : Addr) (cdv : Value) (A : Around) (outer : List Env) (s : Shared) (H : Hp) (vs : List V) (Q : VK) (E : XK), Room k (A.deeper (envOfC x (defScope st) s.heap.objs.size f cdv)) → sp vs H Q E →
      ∃ t, PSs (cxOf (CXE P w) P w K mg base N x (defScope st) f cdv A outer s H E) (defBody st) t ∧ t { nx := fun _ H' => Q .non H', rt := Q } (start N vs) H) : Cal P w K mg base x ps (k + 1) sp := by
  obtain ⟨f, fd, F, hm, hb⟩ := d.ex
  obtain ⟨oc, od, kV, doc, pm, an, cdv, ct, osl, rfl, lk, hcd⟩ := F.ex
  exact ⟨f, _, hm, F.kp, hb, fn_of lk hcd S len fun A outer s H vs Q E hr hsp => hbody f cdv A outer s H vs Q E hr hsp, oc, od, osl, lk⟩
theorem Dfn.cal {x : Str} {st : Stmt} {N ps : List Str} {k : Nat} {sp : Sp} (d : Dfn K mg x st ps) (S : FnScope N ps (defScope st)) (len : ∀ vs H Q E, sp vs H Q E → vs.length = ps.length)
    (hbody : ∀ (f : Addr) (cdv : Value) (A : Around) (outer : List Env) (s : Shared) (H : Hp) (vs : List V) (Q : VK) (E : XK), Room k (A.deeper (envOfC x (defScope st) s.heap.objs.size f cdv)) → sp vs H Q E →
      ∃ t, PSs (cxOf (CXE P w) P w K mg base N x (defScope st) f cdv A outer s H E).nox (defBody st) t ∧ t { nx := fun _ H' => Q .non H', rt := Q } (start N vs) H) : Cal P w K mg base x ps (k + 1) sp :=
  d.calX S len fun f cdv A outer s H vs Q E hr hsp => by
    obtain ⟨t, h, q⟩ := hbody f cdv A outer s H vs Q E hr hsp
    exact ⟨t, h.nox, q⟩
def sp_law (K : PySem.W.Frag) (ns : List Int) : Sp := fun vs H Q _ => match vs with
  | [.ref a] => SqL K H a (ns.map V.int) ∧ ns.length ≤ 63 ∧ ∀ H', Q (.bl true) H'
  | _ => False
def sp_lawA (K : PySem.W.Frag) : Sp := fun vs H Q _ => ∃ (ns : List Int) (a : Addr), vs = [.ref a] ∧ SqL K H a (ns.map V.int) ∧ ns.length ≤ 63 ∧ ∀ H', Q (.bl true) H'
theorem law_fn {k : Nat} {st : Stmt} {f : Addr} {fd : FuncData} (F : Fun K "law" "law" st f fd) (hm : mg "law" = some (.ref f)) (C : ∀ ns, Cal P w K mg base "law" ["_law_script"] k (sp_law K ns)) : FnOk P w K mg base (CXE P w) k f fd ["_law_script"] (sp_lawA K) := by
  refine ⟨fun vs H Q E h => ?_, fun A outer s H args us vs Q E hr he hb hv hs => ?_⟩
  · obtain ⟨ns, a, rfl, _⟩ := h
    rfl
  · obtain ⟨ns, a, rfl, h1, h2, h3⟩ := hs
    obtain ⟨f', fd', e1, e2, e3, G, oc', od', osl', lk'⟩ := (C ns).ex
    obtain ⟨oc, od, kV, doc, pm, an, cdv, ct, osl, _, lk, _⟩ := F.ex
    rw [hm] at e1
    cases e1
    rw [lk] at lk'
    cases lk'
    exact G.run A outer s H args us _ Q E hr he hb hv ⟨h1, h2, h3⟩
end
theorem sm_sqT {K : PySem.W.Frag} {H H' : Hp} {a : Addr} {xs : List V} (e : Same H H') (h : SqT K H a xs) : SqT K H' a xs := by
  rcases h with (h | ⟨o, h⟩) | h
  · exact .inl (.inl (e _ _ h))
  · exact .inl (.inr ⟨o, e _ _ h⟩)
  · exact .inr h
mutual
inductive Rp (K : PySem.W.Frag) (H : Hp) : V → PyData → Prop where
  | non : Rp K H .non .none
  | bl (b : Bool) : Rp K H (.bl b) (.bool b)
  | int (i : Int) : Rp K H (.int i) (.int i)
  | str (x : Str) : Rp K H (.str x) (.str x)
  | tup {p : Addr} {xs : List V} {ds : List PyData} : SqT K H p xs → RpL K H xs ds → Rp K H (.ref p) (.tuple ds)
  | lst {p : Addr} {xs : List V} {ds : List PyData} : SqL K H p xs → RpL K H xs ds → Rp K H (.ref p) (.list ds)
inductive RpL (K : PySem.W.Frag) (H : Hp) : List V → List PyData → Prop where
  | nil : RpL K H [] []
  | cons {v : V} {d : PyData} {vs : List V} {ds : List PyData} : Rp K H v d → RpL K H vs ds → RpL K H (v :: vs) (d :: ds)
end
mutual
theorem Rp.up {K : PySem.W.Frag} {H H' : Hp} (s : Same H H') : ∀ {v : V} {d : PyData}, Rp K H v d → Rp K H' v d
  | _, _, .non => .non
  | _, _, .bl b => .bl b
  | _, _, .int i => .int i
  | _, _, .str x => .str x
  | _, _, .tup h r => .tup (sm_sqT s h) (RpL.up s r)
  | _, _, .lst h r => .lst (s.seq h) (RpL.up s r)
theorem RpL.up {K : PySem.W.Frag} {H H' : Hp} (s : Same H H') : ∀ {v : List V} {d : List PyData}, RpL K H v d → RpL K H' v d
  | _, _, .nil => .nil
  | _, _, .cons h r => .cons (Rp.up s h) (RpL.up s r)
end
section
variable {X : Cx}
mutual
theorem Rp.reads {pins : List (Addr × Obj)} {σ : L2.St} {H : Hp} {s : Shared} (I : Inv X pins σ H s) : ∀ {v : V} {d : PyData} {u : Value}, Rp X.K H v d → L2.RelV v u → ∃ as, Reads s.heap u d as
  | _, _, _, .non, r => by cases r; exact ⟨_, Reads.none⟩
  | _, _, _, .bl b, r => by cases r; exact ⟨_, Reads.bool b⟩
  | _, _, _, .int i, r => by obtain ⟨t, rfl⟩ := r; exact ⟨_, Reads.int i t⟩
  | _, _, _, .str i, r => by obtain ⟨t, rfl⟩ := r; exact ⟨_, Reads.str i t⟩
  | _, _, _, .tup h q, r => by
    cases r
    obtain ⟨its, rv, ⟨o, e, c, n, dd⟩, _⟩ := I.tuple h
    obtain ⟨as, ra⟩ := RpL.reads I q rv
    exact ⟨as, reads_tuple_at e c dd (by simpa using ra)⟩
  | _, _, _, .lst h q, r => by
    cases r
    obtain ⟨its, rv, ⟨o, n, e, c, _, dd⟩, _⟩ := I.list h
    obtain ⟨as, ra⟩ := RpL.reads I q rv
    exact ⟨_, reads_list_at e c dd (by simpa using ra)⟩
theorem RpL.reads {pins : List (Addr × Obj)} {σ : L2.St} {H : Hp} {s : Shared} (I : Inv X pins σ H s) : ∀ {v : List V} {d : List PyData} {u : List Value}, RpL X.K H v d → Vals v u → ∃ as, ReadsAll s.heap u d as
  | _, _, _, .nil, r => by cases r; exact ⟨_, ReadsAll.nil⟩
  | _, _, _, .cons h q, r => by
    cases r with
    | cons r1 r2 =>
      obtain ⟨as, ra⟩ := Rp.reads I h r1
      obtain ⟨bs, rb⟩ := RpL.reads I q r2
      exact ⟨_, ReadsAll.cons ra rb⟩
end
def dEqD (K : PySem.W.Frag) : R2 := fun x y H Q => ∃ d e, Rp K H x d ∧ Rp K H y e ∧ SeqAt.shaped d = true ∧ SeqAt.shaped e = true ∧ Q (.bl (PyData.eqv d e)) H
def dNeD (K : PySem.W.Frag) : R2 := fun x y H Q => ∃ d e, Rp K H x d ∧ Rp K H y e ∧ SeqAt.shaped d = true ∧ SeqAt.shaped e = true ∧ Q (.bl (!PyData.eqv d e)) H
theorem o_eqD (hu : X.A.units + 64 < cLine) : OpR X (compareOp .Eq) (dEqD X.K) := by
  intro pins s σ H x y v u Q I rx ry q
  obtain ⟨d, e, h1, h2, h3, h4, q⟩ := q
  obtain ⟨as, r1⟩ := h1.reads I rx
  obtain ⟨bs, r2⟩ := h2.reads I ry
  exact PyProof.Rows.eq_dataH r1 r2 h3 h4 hu ⟨.bl _, H, I, rfl, q⟩
theorem o_neD (hu : X.A.units + 64 < cLine) : OpR X (compareOp .NotEq) (dNeD X.K) := by
  intro pins s σ H x y v u Q I rx ry q
  obtain ⟨d, e, h1, h2, h3, h4, q⟩ := q
  obtain ⟨as, r1⟩ := h1.reads I rx
  obtain ⟨bs, r2⟩ := h2.reads I ry
  exact PyProof.Rows.ne_dataH r1 r2 h3 h4 hu ⟨.bl _, H, I, rfl, q⟩
end
end Lw
end
section
set_option Elab.async false
set_option linter.all false
set_option maxRecDepth 100000
set_option maxHeartbeats 4000000
set_option exponentiation.threshold 5000
namespace Lw
open PySem PySem.Spec PyProof.Rows L2
def cell (ns : List Int) (k : Int) : Int := if ns.length = 0 then 0 else ns.getD (k % (ns.length : Int)).toNat 0
def draw (ns : List Int) (k m : Int) : Int := (cell ns k + 1) * (k * k + 7 * k + 48271) % 99991 / 3 % m
theorem bd_lit {n : Nat} {x : Int} (h : Nat.blt x.natAbs (2 ^ n) = true) : Bd n x := by
  unfold Bd
  exact Nat.lt_of_lt_of_le (Nat.lt_of_succ_le (Nat.le_of_ble_eq_true h)) (Nat.le_refl _)
theorem Bd.mono {m n : Nat} {x : Int} (h : Bd m x) (l : m ≤ n) : Bd n x := Nat.lt_of_lt_of_le h (Nat.pow_le_pow_right (by decide) l)
theorem Bd.mul {m n : Nat} {x y : Int} (h : Bd m x) (l : Bd n y) : Bd (m + n) (x * y) := by
  unfold Bd at *
  rw [Int.natAbs_mul, Nat.pow_add]
  by_cases z : y.natAbs = 0
  · rw [z, Nat.mul_zero]
    exact Nat.mul_pos (Nat.pow_pos (by decide)) (Nat.pow_pos (by decide))
  · exact Nat.lt_of_lt_of_le (Nat.mul_lt_mul_of_pos_right h (Nat.pos_of_ne_zero z)) (Nat.mul_le_mul_left _ (Nat.le_of_lt l))
theorem Bd.add {n : Nat} {x y : Int} (h : Bd n x) (l : Bd n y) : Bd (n + 1) (x + y) := by
  unfold Bd at *
  have := Int.natAbs_add_le x y
  rw [Nat.pow_succ]
  omega
theorem Bd.of_le {n : Nat} {x y : Int} (h : Bd n y) (l : x.natAbs ≤ y.natAbs) : Bd n x := Nat.lt_of_le_of_lt l h
theorem bd_of {x b : Int} {n : Nat} (h1 : -b ≤ x) (h2 : x ≤ b) (h : Bd n b) : Bd n x := h.of_le (by omega)
def lowT (t b : Int) : Int := t / (Int.gcd t b : Int)
def lowB (t b : Int) : Int := b / (Int.gcd t b : Int)
theorem gcd_pos' (t : Int) {b : Int} (hb : 0 < b) : 0 < (Int.gcd t b : Int) := by
  have : 0 < Int.gcd t b := Int.gcd_pos_of_ne_zero_right _ (by omega)
  omega
theorem lowT_mul (t b : Int) : lowT t b * (Int.gcd t b : Int) = t := Int.ediv_mul_cancel (Int.gcd_dvd_left ..)
theorem lowB_mul (t b : Int) : lowB t b * (Int.gcd t b : Int) = b := Int.ediv_mul_cancel (Int.gcd_dvd_right ..)
theorem lowB_pos (t : Int) {b : Int} (hb : 0 < b) : 0 < lowB t b := by
  have h := lowB_mul t b
  have g := gcd_pos' t hb
  refine Int.lt_of_not_ge fun c => ?_
  have := Int.mul_nonpos_of_nonpos_of_nonneg c (Int.le_of_lt g)
  omega
theorem natAbs_ediv_le' (x : Int) (g : Nat) : (x / (g : Int)).natAbs ≤ x.natAbs := Int.natAbs_ediv_le_natAbs x g
theorem bd_lowT {n : Nat} {t b : Int} (h : Bd n t) : Bd n (lowT t b) := h.of_le (natAbs_ediv_le' ..)
theorem bd_lowB {n : Nat} {t b : Int} (h : Bd n b) : Bd n (lowB t b) := h.of_le (natAbs_ediv_le' ..)
structure Fq (n : Nat) (H : Hp) (p : Addr) (a b : Int) : Prop where
  at' : H p = some (.tup [.int a, .int b])
  pos : 0 < b
  ba : Bd n a
  bb : Bd n b
theorem Fq.mono {m n : Nat} {H : Hp} {p : Addr} {a b : Int} (h : Fq m H p a b) (l : m ≤ n) : Fq n H p a b := ⟨h.at', h.pos, h.ba.mono l, h.bb.mono l⟩
abbrev Q2 := Int × Int
def ltQ (x y : Q2) : Bool := decide (x.1 * y.2 < y.1 * x.2)
def sumQ (x y : Q2) : Q2 := (lowT (x.1 * y.2 + y.1 * x.2) (x.2 * y.2), lowB (x.1 * y.2 + y.1 * x.2) (x.2 * y.2))
theorem cok {m n : Nat} {i j : Int} (h : Bd m i) (h' : Bd n j) (l : m ≤ 4000) (l' : n ≤ 4000) : COk i j := .inl ⟨h.mono l, h'.mono l'⟩
structure Pq (n : Nat) (H : Hp) (r : Addr) (lo : Q2) (hi : Option Q2) : Prop where
  ex : ∃ l x, H r = some (.tup [.ref l, x]) ∧ Fq n H l lo.1 lo.2 ∧ (hi = none ∧ x = .non ∨ ∃ q y, hi = some y ∧ x = .ref q ∧ Fq n H q y.1 y.2)
def okHi (lo : Q2) (hi : Option Q2) : Prop := 0 < lo.2 ∧ ∀ h, hi = some h → 0 < h.2 ∧ ltQ h lo = false
def bnQ (hi : Option Q2) (lo : Q2) : Bool := match hi with
  | none => false
  | some h => ltQ h lo
def inQ (x lo : Q2) (hi : Option Q2) : Bool := !ltQ x lo && !bnQ hi x
theorem gcd_fmod (a b : Int) : Int.gcd b (a.fmod b) = Int.gcd a b := by
  rw [Int.fmod_def, Int.gcd_sub_mul_left_right, Int.gcd_comm]
theorem fmod_lt (a : Int) {b : Int} (h : b ≠ 0) : (a.fmod b).natAbs < b.natAbs := by
  have e0 := Int.emod_nonneg a h
  have e1 := Int.emod_lt a h
  rw [Int.fmod_eq_emod]
  by_cases c : 0 ≤ b ∨ b ∣ a
  · rw [if_pos c]
    omega
  · rw [if_neg c]
    have e2 : a % b ≠ 0 := fun z => c (.inr (Int.dvd_of_emod_eq_zero z))
    have : ¬ 0 ≤ b := fun z => c (.inl z)
    omega
def frT (t b : Int) : Int := if b < 0 then -lowT t b else lowT t b
def frB (t b : Int) : Int := if b < 0 then -lowB t b else lowB t b
def dvs (t b : Int) : Int := if b < 0 then -(Int.gcd t b : Int) else (Int.gcd t b : Int)
theorem gcd_ne (t : Int) {b : Int} (hb : b ≠ 0) : 0 < (Int.gcd t b : Int) := by
  have : 0 < Int.gcd t b := Int.gcd_pos_of_ne_zero_right _ hb
  omega
theorem dvs_ne (t : Int) {b : Int} (hb : b ≠ 0) : dvs t b ≠ 0 := by
  have := gcd_ne t hb
  unfold dvs
  split <;> omega
theorem bd_dvs {n : Nat} (t : Int) {b : Int} (hb : b ≠ 0) (h : Bd n b) : Bd n (dvs t b) := by
  have l := Nat.le_of_dvd (by omega : 0 < b.natAbs) (show Int.gcd t b ∣ b.natAbs from Nat.gcd_dvd_right ..)
  refine h.of_le ?_
  unfold dvs
  split <;> omega
theorem fdiv_T (t : Int) {b : Int} (hb : b ≠ 0) : t.fdiv (dvs t b) = frT t b := by
  have g := gcd_ne t hb
  have h := lowT_mul t b
  unfold dvs frT
  split
  · have e : t = (-lowT t b) * (-(Int.gcd t b : Int)) := by rw [Int.neg_mul_neg]; exact h.symm
    exact (congrArg (fun z => z.fdiv (-(Int.gcd t b : Int))) e).trans (Int.mul_fdiv_cancel _ (by omega))
  · exact (congrArg (fun z => z.fdiv (Int.gcd t b : Int)) h.symm).trans (Int.mul_fdiv_cancel _ (by omega))
theorem fdiv_B (t : Int) {b : Int} (hb : b ≠ 0) : b.fdiv (dvs t b) = frB t b := by
  have g := gcd_ne t hb
  have h := lowB_mul t b
  unfold dvs frB
  split
  · have e : b = (-lowB t b) * (-(Int.gcd t b : Int)) := by rw [Int.neg_mul_neg]; exact h.symm
    exact (congrArg (fun z => z.fdiv (-(Int.gcd t b : Int))) e).trans (Int.mul_fdiv_cancel _ (by omega))
  · exact (congrArg (fun z => z.fdiv (Int.gcd t b : Int)) h.symm).trans (Int.mul_fdiv_cancel _ (by omega))
structure FrAt (H : Hp) (p : Addr) (t b : Int) : Prop where
  at' : H p = some (.tup [.int (frT t b), .int (frB t b)])
end Lw
end
section
set_option Elab.async false
set_option linter.all false
set_option maxRecDepth 100000
set_option maxHeartbeats 4000000
namespace Lw
open PySem PySem.Spec PyProof.Rows L2
def ItK (kd : Bool) (h : Heap) (it l : Addr) (k : Nat) : Prop := match kd with
  | true => h.IsListIter it l k
  | false => h.IsTupleIter it l k
def SeK (kd : Bool) (h : Heap) (l : Addr) (xs : Array Value) : Prop := match kd with
  | true => h.IsList l xs
  | false => h.IsTuple l xs
def SqK (kd : Bool) (K : PySem.W.Frag) (H : Hp) (a : Addr) (xs : List V) : Prop := match kd with
  | true => SqL K H a xs
  | false => SqT K H a xs
section
variable {prog : Program} {w : World} {A : Around} {E : Value → Shared → Prop} {s : Shared}
structure ZAt (k1 k2 : Bool) (z TI TO i1 i2 l1 l2 : Addr) (n : Nat) (h : Heap) : Prop where
  z : IsZip h z TI TO .none
  ti : IsPair h TI (.ref i1) (.ref i2)
  to : ∃ a b, IsPair h TO a b
  a : ItK k1 h i1 l1 n
  b : ItK k2 h i2 l2 n
def itO (kd : Bool) (l : Addr) : Obj := match kd with
  | true => { cls := .type "list_iterator", data := .fields #[.ref l, .int 0 0] }
  | false => { cls := .type "tuple_iterator", data := .fields #[.ref l, .int 0 0] }
end
abbrev zK1 (k1 : Bool) (h : Heap) (l1 : Addr) : Heap := h.push (itO k1 l1)
abbrev zK2 (k1 k2 : Bool) (h : Heap) (l1 l2 : Addr) : Heap := (zK1 k1 h l1).push (itO k2 l2)
abbrev zK3 (k1 k2 : Bool) (h : Heap) (l1 l2 : Addr) : Heap := (zK2 k1 k2 h l1 l2).push { cls := .type "tuple", data := .seq #[.ref h.objs.size, .ref (zK1 k1 h l1).objs.size] }
abbrev zK4 (k1 k2 : Bool) (h : Heap) (l1 l2 : Addr) : Heap := (zK3 k1 k2 h l1 l2).push { cls := .type "tuple", data := .seq #[.none, .none] }
abbrev zK5 (k1 k2 : Bool) (h : Heap) (l1 l2 : Addr) : Heap := (zK4 k1 k2 h l1 l2).push { cls := .type "zip", data := .fields #[.none, .bool false, .bool false, .ref (zK2 k1 k2 h l1 l2).objs.size, .ref (zK3 k1 k2 h l1 l2).objs.size] }
section
variable {prog : Program} {w : World} {A : Around} {E : Value → Shared → Prop} {s : Shared}
end
section
variable {X : Cx}
theorem inv_moved {pins : List (Addr × Obj)} {σ : L2.St} {H : Hp} {s : Shared} {h' : Heap} {t' : Nat} {fp : List Addr} (I : Inv X pins σ H s) (k : ∀ b o, b ∉ fp → s.heap.get? b = some o → h'.get? b = some o) (hf : ∀ b ∈ fp, FpOk X pins H b) :
    Inv X pins σ H { s with heap := h', toks := t' } := by
  have nit : ∀ b u, H b = some u → b ∉ fp := fun b u e z => by rw [(hf b z).1] at e; cases e
  refine I.step (g' := s.gens) (d' := s.drawn) (ch := fp) (fun b hb => ?_) (fun b o _ _ hc e _ => k b o hc e) (fun b o _ _ hc e _ => ⟨o.slots, k b o hc e⟩) (fun _ _ _ _ n => n) (fun b o hc e => ⟨o, k b o hc e⟩) (fun _ _ e => e) (fun _ _ _ e => e)
    (fun b ps e => ⟨#[], by rw [e]; simp⟩) (fun m hm => ?_) (fun b u e => ?_) I.bare
  · obtain ⟨_, f1, f2, f3, f4, f5⟩ := hf b hb
    exact ⟨f3, f1, f4, f5⟩
  · obtain ⟨o, es, ep, ho, r⟩ := hm
    exact ⟨o, es, ep, k _ o (fun z => (hf _ z).2.1 rfl) ho, r⟩
  · refine (I.hok b u e).stay (fun c v hc q => k c v ?_ q) (fun _ q => q) fun _ _ q => q
    rcases hc with z | z
    · rw [z]; exact nit b u e
    · exact nit c _ z
def Itz (k1 k2 : Bool) (K : PySem.W.Frag) (a b : Addr) : It :=
  ⟨fun i H => ∃ xs ys x y, SqK k1 K H a xs ∧ SqK k2 K H b ys ∧ xs[i]? = some x ∧ ys[i]? = some y,
   fun i H v H' => ∃ t x y, v = .ref t ∧ H t = none ∧ H' = upd H t (.tup [x, y]) ∧ (∀ xs, SqK k1 K H a xs → xs[i]? = some x) ∧ ∀ ys, SqK k2 K H b ys → ys[i]? = some y,
   fun i H => ∃ xs ys, SqK k1 K H a xs ∧ SqK k2 K H b ys ∧ (xs.length ≤ i ∨ ys.length ≤ i)⟩
def iZip (k1 k2 : Bool) (K : PySem.W.Frag) (ta : TA) : TI := fun σ H R => ta σ H fun vs H1 => match vs with
  | [.ref a, .ref b] => (∃ xs, SqK k1 K H1 a xs) ∧ (∃ ys, SqK k2 K H1 b ys) ∧ R (Itz k1 k2 K a b) H1
  | _ => False
end
section
variable {X : Cx}
def dCatL : R2 := fun x y H Q => match x, y with
  | .ref l, .ref b => ∃ xs zs, H l = some (.lst xs) ∧ H b = some (.lst zs) ∧ xs.length + zs.length ≤ 1000 ∧ ∀ p H', Same H H' → H' p = some (.lst (xs ++ zs)) → Q (.ref p) H'
  | _, _ => False
theorem o_catL : OpR X (binaryOp .Add) dCatL := by
  intro pins s σ H x y v u Q I rx ry q
  cases x <;> cases y <;> first
    | exact False.elim q
    | (obtain ⟨xs, zs, h1, h2, h3, q⟩ := q
       exact op_cat _ _ _ _ _ _ _ _ _ I rx ry ⟨_, _, xs, zs, rfl, rfl, h1, h2, Nat.le_trans h3 (by decide), fun p hp => q p _ (same_upd hp) upd_same⟩)
def dSlL (K : PySem.W.Frag) : V → Option Int → Option Int → Hp → VK → Prop := fun x lo hi H Q => match x with
  | .ref a => ∃ xs, SqL K H a xs ∧ ∀ p H', Same H H' → H' p = some (.lst (cutV xs lo hi)) → Q (.ref p) H'
  | _ => False
theorem sl_lst : SlR X (dSlL X.K) := by
  intro pins s σ H x v vl vu lo hi sl Q I rx hs pl pu h
  cases x <;> first
    | exact False.elim h
    | (obtain ⟨xs, h1, q⟩ := h
       exact sl_list _ _ _ _ _ _ _ _ _ _ _ _ I rx hs pl pu ⟨_, xs, rfl, h1, fun p hp => q p _ (same_upd hp) upd_same⟩)
end
def AllFq (n : Nat) (H : Hp) (vs : List V) : Prop := ∀ v ∈ vs, ∃ (p : Addr) (x : Q2), v = .ref p ∧ Fq n H p x.1 x.2
end Lw
end
section
set_option Elab.async false
set_option linter.all false
set_option maxRecDepth 100000
set_option maxHeartbeats 4000000
namespace Lw
open PySem PySem.Spec PyProof.Rows L2
section
variable {X : Cx} {pos : Pos}
def dD0 : TE := fun _ H Q => ∀ p H', Same H H' → H' p = some (.dK []) → Q (.ref p) H'
end
end Lw
end
section
set_option Elab.async false
set_option linter.all false
set_option maxRecDepth 100000
set_option maxHeartbeats 4000000
namespace Lw
open PySem PySem.Spec PyProof.Rows L2
section
variable {prog : Program} {w : World} {A : Around} {R : Result → Shared → Prop} {s : Shared}
theorem turn_eq (elt tg iter : Expr) (scope : Scope) (pos : Pos) (it acc : Value) (env : Env) :
    compTurn (.ListComp elt [⟨tg, iter, [], 0⟩] scope pos) 0 it acc env = (standAt iter.pos >>= fun _ => pyNext it >>= fun r => match r with
      | none => pure (.done .next)
      | some v => letOwnedTupleGo tg it v >>= fun _ => assign tg env v >>= fun _ => (eval elt env >>= fun x => call (.builtin "list.append") [acc, x] >>= fun _ => pure ()) >>= fun _ => again (.compLoop (.ListComp elt [⟨tg, iter, [], 0⟩] scope pos) 0 it acc env)) := rfl
theorem loop_comp {elt tg iter : Expr} {scope : Scope} {pos : Pos} {it acc : Value} {env : Env} (I : Nat → Shared → Prop)
    (turn : ∀ n s, I n s → wpAny (model prog w) A (pyNext it) (fun r s1 => (r = none ∧ R (.ok .next) s1) ∨ ∃ v, r = some v ∧ wpAny (model prog w) A (letOwnedTupleGo tg it v) (fun _ s2 => wpAny (model prog w) A (assign tg env v) (fun _ s3 =>
      wpAny (model prog w) A (eval elt env) (fun x s4 => wpAny (model prog w) A (call (.builtin "list.append") [acc, x]) (fun _ s5 => ∃ m, m < n ∧ I m s5) (fun _ _ => False) s4) (fun _ _ => False) s3) (fun _ _ => False) s2) (fun _ _ => False) s1) (fun _ _ => False) s)
    (n : Nat) (h : I n s) : codeAny (model prog w) A (.compLoop (.ListComp elt [⟨tg, iter, [], 0⟩] scope pos) 0 it acc env) R s := by
  refine codeAny_loop rfl I (fun n s hI => ?_) n h
  show wpAny _ _ ((compTurn (.ListComp elt [⟨tg, iter, [], 0⟩] scope pos) 0 it acc env).onRaise (fun x => do noteFrame x env; theTreesLotGoes x)) _ _ s
  refine wpAny_noted ?_
  rw [turn_eq]
  refine wpAny_bind (wpAny_standAt (wpAny_bind (wpAny_mono (turn n s hI) (fun r s1 h1 => ?_) fun _ _ z => z.elim)))
  rcases h1 with ⟨rfl, h1⟩ | ⟨v, rfl, h1⟩
  · exact wpAny_pure h1
  · refine wpAny_bind (wpAny_mono h1 (fun _ s2 h2 => ?_) fun _ _ z => z.elim)
    refine wpAny_bind (wpAny_mono h2 (fun _ s3 h3 => ?_) fun _ _ z => z.elim)
    refine wpAny_bind (wpAny_bind (wpAny_mono h3 (fun x s4 h4 => ?_) fun _ _ z => z.elim))
    refine wpAny_bind (wpAny_mono h4 (fun _ s5 h5 => ?_) fun _ _ z => z.elim)
    exact wpAny_pure (wpAny_pure ⟨rfl, h5⟩)
end
abbrev cxC (X : Cx) (N : List Str) (s₀ : Shared) (H₀ : Hp) (env : Env) (fp : List Addr) : Cx :=
  { X with N := N, s₀ := s₀, H₀ := H₀, env := env, outer := X.stack, ex := fp, fn := fun _ => false, pn := [], xe := fun _ _ => False }
structure Cap (X : Cx) (sc : Scope) (cl : List (Str × Addr)) (j : Nat) (y : Str) : Prop where
  nm : X.N[j]? = some y
  ko : X.env.kindOf y = some .cell
  ki : sc.names.lookup y = some .cell
  cl : cl.lookup y = X.env.cells.lookup y
def capσ (js : List Nat) (σ : L2.St) : L2.St := js.map fun j => (σ[j]?).join
@[irreducible] def CGoal (J : It) (g : TG) (te : TE) (k : Nat) (js : List Nat) (σ : L2.St) (H1 : Hp) (Q : VK) : Prop := ∀ D, H1 D = none → ∃ W : Nat → Nat → Hp → Prop, (∃ m, W 0 m (upd H1 D (.lst []))) ∧ ∀ i m H, W i m H →
  (J.stop i H ∧ Q (.ref D) H) ∨ (J.go i H ∧ ∀ x H', J.yld i H x H' → g x (List.replicate k none ++ capσ js σ) H' fun σ2 H2 => σ2.drop k = capσ js σ ∧ te σ2 H2 fun v H3 => ∃ xs, H3 D = some (.lst xs) ∧ xs.length < sizeLine ∧ ∃ m', m' < m ∧ W (i + 1) m' (upd H3 D (.lst (xs ++ [v]))))
def dComp (wi : TI) (g : TG) (te : TE) (k : Nat) (js : List Nat) : TE := fun σ H Q => wi σ H fun J H1 => CGoal J g te k js σ H1 Q
section
variable {X : Cx}
theorem comp_ok {pins : List (Addr × Obj)} {σ : L2.St} {H : Hp} {s : Shared} {N : List Str} {scope : Scope} {cl : List (Str × Addr)} {C : Addr} {fp : List Addr} (I : Inv X pins σ H s) (hk : scope.kind = .function) (hC : s.heap.objs.size ≤ C)
    (hcl : ∀ y c, cl.lookup y = some c → X.env.cells.lookup y = some c) (hhas : ∀ y, ((relabel scope X.env).names.lookup y = some .cell ∨ (relabel scope X.env).names.lookup y = some .free) → ∃ c, cl.lookup y = some c)
    (hf : ∀ b ∈ fp, FpOk X pins H b ∧ b < s.heap.objs.size) : (cxC X N s H (compEnvC scope cl C X.env) fp).Ok where
  mod := I.ok.mod
  kind := hk
  glob := I.ok.glob
  blt := I.ok.blt
  above := hC
  inj := fun x y c e1 e2 => I.ok.inj x y c (hcl x c e1) (hcl y c e2)
  has := fun x h => hhas x h
  cab := fun x c z => absurd z (by simp)
  hd := I.ok.hd
  frames := I.ok.frames
  stk := .inl rfl
  exf := fun b hb => ⟨Nat.ne_of_lt (Nat.lt_of_lt_of_le (hf b hb).2 hC), fun x c e => (hf b hb).1.2.2.2.2.1 x c (hcl x c e)⟩
  bs := I.bs
  bsz := Nat.le_trans I.ok.bsz I.sz
  noex := fun b o e hb => by
    rcases (hf b hb).1.2.2.2.1 with z | z
    · exact I.ok.noex b o e z
    · exact absurd (Nat.lt_of_lt_of_le (Heap.lt_size (I.ok.bs b o e).1) z) (Nat.lt_irrefl _)
  exfs := fun b hb hm => by
    rcases List.mem_cons.mp (I.stkSub b hm) with z | z
    · exact (hf b hb).1.2.1 z
    · exact (hf b hb).1.2.2.1 z
  funs := I.stack
  frf := I.stkFree
theorem comp_core {elt iter tg : Expr} {scope : Scope} {pos : Pos} {wi : TI} {te : TE} {g : TG} {N : List Str} {cl : List (Str × Addr)} (k : Nat) (js : List Nat) (hi : PI X tg iter wi)
    (hg : ∀ C s H fp, PG (cxC X N s H (compEnvC scope cl C X.env) fp) tg g) (he : ∀ C s H fp, PE (cxC X N s H (compEnvC scope cl C X.env) fp) elt te) (hcalm : X.calm = true)
    (hclos : closureFor scope X.env = pure cl) (hkind : scope.kind = .function) (hcell : ∀ y ∈ scope.names, y.2 ≠ .cell) (hnames : ∀ y ∈ scope.names, y.2 = .local → scope.names.lookup y.1 = some .local)
    (hcl : ∀ y c, cl.lookup y = some c → X.env.cells.lookup y = some c) (hhas : ∀ y, ((relabel scope X.env).names.lookup y = some .cell ∨ (relabel scope X.env).names.lookup y = some .free) → ∃ c, cl.lookup y = some c)
    (hlen : N.length = k + js.length) (hcap : ∀ i j, js[i]? = some j → ∃ y, N[k + i]? = some y ∧ Cap X (relabel scope X.env) cl j y)
    (hs : ∀ x, foldedSetIterable iter X.env x = pure x) {pins : List (Addr × Obj)} {s : Shared} {σ : L2.St} {H : Hp} {Q : VK} (I : Inv X pins σ H s) (h : dComp wi g te k js σ H Q) {cpos : Pos} {use : Option (Value → Sem Unit)} {Qv : Value → Shared → Prop}
    (fin : ∀ (s6 : Shared) (H5 : Hp) (D C : Addr) (m : Str → Option Value), Inv X pins σ H5 s6 → s6.heap.Ns C m → H5 C = none → X.s₀.heap.objs.size ≤ C → C ≠ X.env.locals → (∀ x c, X.env.cells.lookup x = some c → c ≠ C) → (∀ p ∈ X.pn ++ pins, p.1 ≠ C) → Q (.ref D) H5 →
      compPost (model X.prog X.w) X.A X.xe use Qv (.ref D) C (.ok .next) s6) :
    wpAny (model X.prog X.w) X.A (comprehension (.ListComp elt [⟨tg, iter, [], 0⟩] scope pos) scope X.env cpos (newList []) false (eval iter X.env) use) Qv X.xe s := by
  refine wpAny_comprehension_free (use := use) rfl hs hclos hkind hnames (thn (hi pins s σ H _ I h) fun v s1 h1 => thn h1 fun itv s2 h2 => ?_)
  obtain ⟨it, fp, tn, J, H2, rfl, I2, T, st2, f2, h2⟩ := h2
  refine wpAny_newObj_type ?_
  have hD : H2 s2.heap.objs.size = none := I2.hok.fresh (Nat.le_refl _)
  unfold CGoal at h2
  obtain ⟨W, ⟨m0, w0⟩, turn⟩ := h2 _ hD
  have I3 : Inv X pins σ (upd H2 s2.heap.objs.size (.lst [])) { s2 with heap := s2.heap.push { cls := .type "list", dict := none, data := .seq ([] : List Value).toArray } } :=
    I2.laid (t' := s2.toks) (fun b u e => Heap.get?_push_of_some _ e) (Nat.le_refl _) ⟨Nat.zero_le _, [], 0, .nil, Heap.get?_push_size _ rfl⟩
  have hlt : ∀ b ∈ fp, b < s2.heap.objs.size := fun b hb => by
    obtain ⟨o, e, _⟩ := T.obj _ _ st2 b hb
    exact Heap.lt_size e
  have f3 : ∀ b ∈ fp, FpOk X pins (upd H2 s2.heap.objs.size (.lst [])) b := fun b hb => ⟨by rw [upd_ne (Nat.ne_of_lt (hlt b hb))]; exact (f2 b hb).1, (f2 b hb).2⟩
  have st3 : tn 0 (s2.heap.push { cls := .type "list", dict := none, data := .seq ([] : List Value).toArray }) := T.keep _ _ _ st2 fun b hb o e => Heap.get?_push_of_some _ e
  have hlt3 : ∀ b ∈ fp, b < (s2.heap.push { cls := .type "list", dict := none, data := .seq ([] : List Value).toArray }).objs.size := fun b hb => Nat.lt_of_lt_of_le (hlt b hb) (by rw [Heap.size_push]; exact Nat.le_succ _)
  generalize hs3 : ({ s2 with heap := s2.heap.push { cls := .type "list", dict := none, data := .seq ([] : List Value).toArray } } : Shared) = s3 at I3
  have eh : s3.heap = s2.heap.push { cls := .type "list", dict := none, data := .seq ([] : List Value).toArray } := by rw [← hs3]
  rw [← eh] at st3 hlt3
  generalize hDD : s2.heap.objs.size = D at *
  generalize hH3 : upd H2 D (.lst []) = H3 at *
  clear hs3 eh
  refine wpAny_newFunctionEnv (s := s3) hcell (by intro y hy; simp at hy) (fun h4 n4 sb4 => ?_) hkind
  have Ok := comp_ok (N := N) (C := s3.heap.objs.size) I3 hkind (Nat.le_refl _) hcl hhas fun b hb => ⟨f3 b hb, hlt3 b hb⟩
  show codeAny _ _ (.compStart (.ListComp elt [⟨tg, iter, [], 0⟩] scope pos) 0 (.ref it) (.ref D) (compEnvC scope cl s3.heap.objs.size X.env)) _ _
  generalize hC : s3.heap.objs.size = C at *
  have old : ∀ b o, s3.heap.get? b = some o → h4.get? b = some o := fun b o e => sb4.extBut b o (by rw [← hC]; exact Nat.ne_of_lt (Heap.lt_size e)) (Heap.get?_push_of_some _ e)
  have fresh : H3 C = none := I3.hok.fresh (by rw [hC]; exact Nat.le_refl _)
  have hcapl : ∀ {i : Nat} {x : Str} {v : V}, N[i]? = some x → (List.replicate k none ++ capσ js σ)[i]? = some (some v) → ∃ u, L2.RelV v u ∧ Look (compEnvC scope cl C X.env) h4 (fun _ => none) x u := by
    intro i x v e1 e2
    by_cases hik : i < k
    · rw [List.getElem?_append_left (by simpa using hik)] at e2
      rw [List.getElem?_replicate] at e2
      simp [hik] at e2
    · rw [List.getElem?_append_right (by simpa using Nat.le_of_not_lt hik), List.length_replicate] at e2
      unfold capσ at e2
      rw [List.getElem?_map] at e2
      cases ej : js[i - k]? with
      | none =>
        rw [ej] at e2
        cases e2
      | some j =>
        rw [ej] at e2
        have e2 : (σ[j]?).join = some v := Option.some.inj e2
        obtain ⟨y, hy, cp⟩ := hcap _ _ ej
        rw [show k + (i - k) = i by omega, e1] at hy
        cases hy
        obtain ⟨m, _, hl⟩ := I3.loc
        have e3 : σ[j]? = some (some v) := by
          cases q : σ[j]? with
          | none =>
            rw [q] at e2
            cases e2
          | some o =>
            rw [q] at e2
            have : o = some v := e2
            rw [this]
        obtain ⟨u, ru, lk⟩ := hl j x v cp.nm e3 (.inr (.inl cp.ko))
        refine ⟨u, ru, ?_⟩
        rcases lk with ⟨z, _⟩ | ⟨_, c, hc, z⟩
        · rw [cp.ko] at z
          cases z
        · refine .inr ⟨.inl cp.ki, c, by rw [← hc]; exact cp.cl, ?_⟩
          obtain ⟨o, e, d⟩ := z
          exact ⟨o, old _ _ e, d⟩
  have I4 : Inv (cxC X N s3 H3 (compEnvC scope cl C X.env) fp) [] (List.replicate k none ++ capσ js σ) H3 { s3 with heap := h4, toks := s3.toks + ([] : List (Str × Value)).length } := by
    refine ⟨Ok, rfl, I3.bare, Un.kept old, ⟨_, n4, fun i x v e1 e2 e3 => ?_⟩, fun x c e => ?_, fresh, fun x c e => I3.freeC x c (hcl x c e), fun p hp => absurd hp (by simp), I3.hok.kept old, ?_⟩
    · obtain ⟨u, ru, lk⟩ := hcapl e1 e2
      refine ⟨u, ru, ?_⟩
      rcases lk with ⟨z, q⟩ | q
      · cases q
      · exact .inr q
    · obtain ⟨v, o, e1, d⟩ := I3.cell x c (hcl x c e)
      exact ⟨v, o, old _ _ e1, d⟩
    · simp [capσ, hlen]
  have fp4 : ∀ {H' : Hp}, (∀ b ∈ fp, H' b = none) → ∀ b ∈ fp, FpOk (cxC X N s3 H3 (compEnvC scope cl C X.env) fp) [] H' b := fun hn b hb =>
    ⟨hn b hb, (Ok.exf b hb).1, Ok.exfs b hb, .inl hb, fun x c e => (Ok.exf b hb).2 x c e, fun p hp => absurd hp (by simp)⟩
  have st4 : tn 0 h4 := T.keep _ _ _ st3 fun b hb o e => old b o e
  have run : ∀ s4 : Shared, s4 = { s3 with heap := h4, toks := s3.toks + ([] : List (Str × Value)).length } →
      codeAny (model X.prog X.w) X.A (.compLoop (.ListComp elt [⟨tg, iter, [], 0⟩] scope pos) 0 (.ref it) (.ref D) (compEnvC scope cl C X.env)) (compPost (model X.prog X.w) X.A X.xe use Qv (.ref D) C) s4 := by
    rintro s4 rfl
    refine loop_comp (fun n s' => ∃ i H' σ', Inv (cxC X N s3 H3 (compEnvC scope cl C X.env) fp) [] σ' H' s' ∧ (∀ j : Nat, ∀ v, (List.replicate k none ++ capσ js σ)[j]? = some (some v) → σ'[j]? = some (some v)) ∧ tn i s'.heap ∧ (∀ b ∈ fp, H' b = none) ∧ W i n H') ?_ m0
      ⟨0, H3, _, I4, fun _ _ z => z, st4, fun b hb => (f3 b hb).1, w0⟩
    rintro n s5 ⟨i, H5, σ5, I5, cap5, st5, fr5, w5⟩
    have I5' := I5.weak (σ' := List.replicate k none ++ capσ js σ) (by rw [I5.len]; simp [capσ, hlen]) cap5
    rcases turn i n H5 w5 with ⟨stop, q⟩ | ⟨go, step⟩
    · refine thn (T.done (cxC X N s3 H3 (compEnvC scope cl C X.env) fp) rfl rfl rfl hcalm i [] s5 σ5 H5 _ I5 (fp4 fr5) st5 stop) fun r s6 ⟨hr, I6⟩ => .inl ⟨hr, ?_⟩
      obtain ⟨m6, n6, _⟩ := I6.loc
      have hCf : H5 C = none := I6.free
      have u6 := I6.base
      have uC : Un (frs X.stack) fp H3 H5 s3.heap s6.heap := ⟨u6.keep, u6.slot, u6.free, u6.there, u6.tups, u6.frzs, u6.tbls⟩
      have I7 : Inv X pins σ H5 s6 := I3.call' (s' := s6) I6.os uC I6.hok I6.bare fun b hb => ⟨(f3 b hb).2.2.2.1, (f3 b hb).2.1, (f3 b hb).2.2.2.2.1, (f3 b hb).2.2.2.2.2⟩
      have lt3 : ∀ b o, s3.heap.get? b = some o → b ≠ C := fun b o e => by rw [← hC]; exact Nat.ne_of_lt (Heap.lt_size e)
      refine fin s6 H5 D C m6 I7 n6 hCf (by rw [← hC]; exact I3.sz) (by rw [← hC]; exact Nat.ne_of_gt I3.lt) (fun x c e => ?_) (fun p hp => lt3 p.1 p.2 (I3.pin p hp).1) q
      obtain ⟨v, o, e1, _⟩ := I3.cell x c e
      exact lt3 c o e1
    · refine thn (T.item (cxC X N s3 H3 (compEnvC scope cl C X.env) fp) rfl rfl rfl hcalm i [] s5 _ H5 _ I5' (fp4 fr5) st5 go) fun r s6 ⟨u, hr, h6⟩ => .inr ⟨u, hr, ?_⟩
      refine thn h6 fun _ s7 ⟨x, H7, I7, r7, y7, st7, fr7⟩ => ?_
      have I7' := I7.pinned (fp4 fr7) (T.obj _ _ st7)
      refine thn (hg C s3 H3 fp _ s7 _ H7 x u _ I7' r7 (step x H7 y7)) fun _ s8 ⟨σ8, H8, I8, d8, q8⟩ => ?_
      refine thn (he C s3 H3 fp _ s8 σ8 H8 _ I8 q8) fun vv s9 ⟨vx, H9, I9, r9, xs, hx9, hz9, m', hm', w9⟩ => ?_
      obtain ⟨z9, its, n9, rl, e9⟩ := (show ObjOk X.prog X.w H9 s9.heap D (.lst xs) from I9.hok D _ hx9)
      have app := mt_append (X := cxC X N s3 H3 (compEnvC scope cl C X.env) fp) _ s9 σ8 H9 (.ref D) [vx] (.ref D) [vv] (fun _ H' => H' = upd H9 D (.lst (xs ++ [vx]))) I9 rfl (.cons r9 .nil) ⟨D, xs, vx, rfl, rfl, hx9, hz9, rfl⟩
      refine thn app fun _ s10 ⟨_, H10, I10, _, e10⟩ => ?_
      subst e10
      refine ⟨m', hm', i + 1, _, σ8, I10.unpinned (pins := []), ?_, T.keep _ _ _ st7 fun b hb o e => (I10.pin (b, o) (List.mem_append_right _ (List.mem_append_right _ (mem_pinsAt hb e)))).1, fun b hb => ?_, w9⟩
      · intro j v e
        by_cases hjk : j < k
        · rw [List.getElem?_append_left (by simpa using hjk), List.getElem?_replicate] at e
          simp [hjk] at e
        · rw [List.getElem?_append_right (by simpa using Nat.le_of_not_lt hjk), List.length_replicate, ← d8, List.getElem?_drop] at e
          rw [show k + (j - k) = j by omega] at e
          exact e
      · obtain ⟨o, e, d⟩ := T.obj _ _ st7 b hb
        exact (I10.pin (b, o) (List.mem_append_right _ (List.mem_append_right _ (mem_pinsAt hb e)))).2.1
  exact codeAny_compStart_list (run _ rfl) (T.self X.A 0 _ _ _ st4 (run _ rfl))
theorem e_comp {elt iter tg : Expr} {scope : Scope} {pos : Pos} {wi : TI} {te : TE} {g : TG} {N : List Str} {cl : List (Str × Addr)} (k : Nat) (js : List Nat) (hi : PI X tg iter wi)
    (hg : ∀ C s H fp, PG (cxC X N s H (compEnvC scope cl C X.env) fp) tg g) (he : ∀ C s H fp, PE (cxC X N s H (compEnvC scope cl C X.env) fp) elt te) (hcalm : X.calm = true)
    (hclos : closureFor scope X.env = pure cl) (hkind : scope.kind = .function) (hcell : ∀ y ∈ scope.names, y.2 ≠ .cell) (hnames : ∀ y ∈ scope.names, y.2 = .local → scope.names.lookup y.1 = some .local)
    (hcl : ∀ y c, cl.lookup y = some c → X.env.cells.lookup y = some c) (hhas : ∀ y, ((relabel scope X.env).names.lookup y = some .cell ∨ (relabel scope X.env).names.lookup y = some .free) → ∃ c, cl.lookup y = some c)
    (hlen : N.length = k + js.length) (hcap : ∀ i j, js[i]? = some j → ∃ y, N[k + i]? = some y ∧ Cap X (relabel scope X.env) cl j y)
    (hs : ∀ x, foldedSetIterable iter X.env x = pure x := by intro _; rfl) : PE X (.ListComp elt [⟨tg, iter, [], 0⟩] scope pos) (dComp wi g te k js) := by
  intro pins s σ H Q I h
  rw [eval_ListComp]
  refine comp_core k js hi hg he hcalm hclos hkind hcell hnames hcl hhas hlen hcap hs I h fun s6 H5 D C m I6 n6 z1 z2 z3 z4 z5 q => ⟨m, n6, fun h7 sb7 => ⟨.ref D, H5, ?_, rfl, q⟩⟩
  exact I6.turned (t' := s6.toks) (fun b o hb e => (sb7.2 b hb).trans e) z1 z3.symm.symm (.inr z2) z4 z5
theorem ps_comp0 {elt iter tg : Expr} {scope : Scope} {pos py spos : Pos} {i : Nat} {y : Str} {wi : TI} {te : TE} {g : TG} {N : List Str} {cl : List (Str × Addr)} (k : Nat) (js : List Nat) (hi : PI X tg iter wi)
    (hg : ∀ C s H fp, PG (cxC X N s H (compEnvC scope cl C X.env) fp) tg g) (he : ∀ C s H fp, PE (cxC X N s H (compEnvC scope cl C X.env) fp) elt te) (hcalm : X.calm = true)
    (hclos : closureFor scope X.env = pure cl) (hkind : scope.kind = .function) (hcell : ∀ y ∈ scope.names, y.2 ≠ .cell) (hnames : ∀ y ∈ scope.names, y.2 = .local → scope.names.lookup y.1 = some .local)
    (hcl : ∀ y c, cl.lookup y = some c → X.env.cells.lookup y = some c) (hhas : ∀ y, ((relabel scope X.env).names.lookup y = some .cell ∨ (relabel scope X.env).names.lookup y = some .free) → ∃ c, cl.lookup y = some c)
    (hlen : N.length = k + js.length) (hcap : ∀ i j, js[i]? = some j → ∃ y, N[k + i]? = some y ∧ Cap X (relabel scope X.env) cl j y)
    (hs : ∀ x, foldedSetIterable iter X.env x = pure x) (hN : X.N.Nodup) (hi' : X.N[i]? = some y) (hy : X.env.scope.names.lookup y = some .local) (hsw : swapsWith (.ListComp elt [⟨tg, iter, [], 0⟩] scope pos) (some (.Name y py)) spos.line X.env = pure true) :
    PS X (.Assign [.Name y py] (.ListComp elt [⟨tg, iter, [], 0⟩] scope pos) spos) (tAsg (dComp wi g te k js) (gName i)) := by
  intro pins s σ H D I h
  rw [exec_Assign_Name_used _ _ _ _ hsw]
  refine wpAny_bind (wpAny_standAt (wpAny_bind ?_))
  show wpAny _ X.A (do let _ ← comprehension (.ListComp elt [⟨tg, iter, [], 0⟩] scope pos) scope X.env _ (newList []) false (eval iter X.env) (some (assign (.Name y py) X.env))) _ _ s
  refine wpAny_bind (wpAny_mono (comp_core k js hi hg he hcalm hclos hkind hcell hnames hcl hhas hlen hcap hs (use := some (assign (.Name y py) X.env)) (Qv := fun _ s' => SP X pins D .next s') I h fun s6 H5 D' C m I6 n6 z1 z2 z3 z4 z5 q => ?_)
    (fun _ s' hq => wpAny_pure (wpAny_pure hq)) fun _ _ e => e)
  show wpAny _ X.A (assign (.Name y py) X.env (.ref D')) _ _ _
  refine wpAny_assign_Name (store_ok2 I6 hN hi' (.inl hy) (v := .ref D') rfl (fun s8 I8 ⟨a, sb, ha⟩ => ?_) (.inr hy))
  have na : C ≠ a := by
    rcases ha with rfl | ha
    · exact z3
    · exact Ne.symm (z4 _ _ ha)
  exact ⟨m, n6.sameBut sb na, fun h9 sb9 => ⟨_, H5, I8.turned (t' := s8.toks) (fun b o hb e => (sb9.2 b hb).trans e) z1 z3 (.inr z2) z4 z5, q⟩⟩
def CapL (X : Cx) (sc : Scope) (cl : List (Str × Addr)) : List Str → List Nat → Prop
  | y :: ys, j :: js => Cap X sc cl j y ∧ CapL X sc cl ys js
  | [], [] => True
  | _, _ => False
theorem CapL.len {sc : Scope} {cl : List (Str × Addr)} : ∀ {ys : List Str} {js : List Nat}, CapL X sc cl ys js → ys.length = js.length
  | [], [], _ => rfl
  | _ :: _, _ :: _, h => congrArg (· + 1) (CapL.len h.2)
  | [], _ :: _, h => h.elim
  | _ :: _, [], h => h.elim
theorem CapL.at {sc : Scope} {cl : List (Str × Addr)} : ∀ {ys : List Str} {js : List Nat}, CapL X sc cl ys js → ∀ (i j : Nat), js[i]? = some j → ∃ y, ys[i]? = some y ∧ Cap X sc cl j y
  | [], [], _, i, j, e => by simp at e
  | y :: ys, j :: js, h, 0, j', e => by
    cases e
    exact ⟨y, rfl, h.1⟩
  | y :: ys, j :: js, h, i + 1, j', e => CapL.at h.2 i j' (by simpa using e)
  | [], _ :: _, h, _, _, _ => h.elim
  | _ :: _, [], h, _, _, _ => h.elim
def CellL (cells : List (Str × Addr)) : List (Str × Addr) → Prop
  | [] => True
  | (y, c) :: r => cells.lookup y = some c ∧ CellL cells r
theorem CellL.at {cells : List (Str × Addr)} : ∀ {cl : List (Str × Addr)}, CellL cells cl → ∀ y c, cl.lookup y = some c → cells.lookup y = some c
  | [], _, y, c, e => by simp at e
  | (z, d) :: r, h, y, c, e => by
    rw [List.lookup_cons] at e
    cases q : y == z with
    | true =>
      rw [q] at e
      cases e
      rw [eq_of_beq q]
      exact h.1
    | false =>
      rw [q] at e
      exact CellL.at h.2 y c e
theorem lookup_has {y : Str} : ∀ {cl : List (Str × Addr)}, (cl.map (·.1)).contains y = true → ∃ c, cl.lookup y = some c
  | [], h => by simp at h
  | (z, d) :: r, h => by
    rw [List.lookup_cons]
    cases q : y == z with
    | true => exact ⟨d, rfl⟩
    | false =>
      refine lookup_has (cl := r) ?_
      rw [List.map_cons, List.contains_cons, q, Bool.false_or] at h
      exact h
theorem relabel_has {env : Env} {y : Str} : ∀ {names : List (Str × NameKind)} {k : NameKind}, (names.map fun (n, k) => if (k == NameKind.free && env.scope.kind == .function && env.kindOf n == some .cell) then (n, NameKind.cell) else (n, k)).lookup y = some k →
    (k = .cell ∨ k = .free) → ∃ z ∈ names, z.1 = y ∧ (z.2 = .free ∨ z.2 = .cell)
  | [], _, h, _ => by simp at h
  | (n, kd) :: r, k, h, hk => by
    rw [List.map_cons] at h
    by_cases hc : (kd == NameKind.free && env.scope.kind == .function && env.kindOf n == some .cell) = true
    · rw [show (match (n, kd) with | (n, k) => if (k == NameKind.free && env.scope.kind == .function && env.kindOf n == some .cell) = true then (n, NameKind.cell) else (n, k)) = (n, NameKind.cell) from if_pos hc, List.lookup_cons] at h
      cases q : y == n with
      | true =>
        rw [Bool.and_eq_true, Bool.and_eq_true] at hc
        exact ⟨(n, kd), List.mem_cons_self, (eq_of_beq q).symm, .inl (eq_of_beq hc.1.1)⟩
      | false =>
        rw [q] at h
        obtain ⟨z, hz, r1⟩ := relabel_has (names := r) h hk
        exact ⟨z, List.mem_cons_of_mem _ hz, r1⟩
    · rw [show (match (n, kd) with | (n, k) => if (k == NameKind.free && env.scope.kind == .function && env.kindOf n == some .cell) = true then (n, NameKind.cell) else (n, k)) = (n, kd) from if_neg hc, List.lookup_cons] at h
      cases q : y == n with
      | true =>
        rw [q] at h
        cases h
        exact ⟨(n, kd), List.mem_cons_self, (eq_of_beq q).symm, hk.symm⟩
      | false =>
        rw [q] at h
        obtain ⟨z, hz, r1⟩ := relabel_has (names := r) h hk
        exact ⟨z, List.mem_cons_of_mem _ hz, r1⟩
theorem e_compN {elt iter tg : Expr} {scope : Scope} {pos : Pos} {wi : TI} {te : TE} {g : TG} {cl : List (Str × Addr)} (own ys : List Str) (js : List Nat) (hclos : closureFor scope X.env = pure cl) (hi : PI X tg iter wi)
    (hg : ∀ C s H fp, PG (cxC X (own ++ ys) s H (compEnvC scope cl C X.env) fp) tg g) (he : ∀ C s H fp, PE (cxC X (own ++ ys) s H (compEnvC scope cl C X.env) fp) elt te) (hcalm : X.calm = true) (hkind : scope.kind = .function)
    (hcell : (scope.names.all fun y => y.2 != .cell) = true) (hnames : (scope.names.all fun y => y.2 != .local || scope.names.lookup y.1 == some .local) = true) (hfr : (scope.names.all fun y => y.2 != .free || (cl.map (·.1)).contains y.1) = true)
    (hcl : CellL X.env.cells cl) (hcap : CapL X (relabel scope X.env) cl ys js) (hs : ∀ x, foldedSetIterable iter X.env x = pure x := by intro _; rfl) :
    PE X (.ListComp elt [⟨tg, iter, [], 0⟩] scope pos) (dComp wi g te own.length js) := by
  rw [List.all_eq_true] at hcell hnames hfr
  have hc : ∀ y ∈ scope.names, y.2 ≠ .cell := fun y hy z => by
    have := hcell y hy
    rw [z] at this
    cases this
  refine e_comp own.length js hi hg he hcalm hclos hkind hc (fun y hy z => ?_) hcl.at (fun y h => ?_) (by rw [List.length_append, hcap.len]) (fun i j e => ?_) hs
  · have := hnames y hy
    rw [z] at this
    simpa using this
  · obtain ⟨z, hz, rfl, hk⟩ : ∃ z ∈ scope.names, z.1 = y ∧ (z.2 = .free ∨ z.2 = .cell) := by
      rcases h with h | h
      · exact relabel_has h (.inl rfl)
      · exact relabel_has h (.inr rfl)
    rcases hk with hk | hk
    · have := hfr z hz
      rw [hk] at this
      exact lookup_has (by simpa using this)
    · exact absurd hk (hc z hz)
  · obtain ⟨y, h1, h2⟩ := hcap.at i j e
    exact ⟨y, by rw [List.getElem?_append_right (Nat.le_add_right _ _), Nat.add_sub_cancel_left]; exact h1, h2⟩
theorem ps_compN {elt iter tg : Expr} {scope : Scope} {pos py spos : Pos} {i : Nat} {y : Str} {wi : TI} {te : TE} {g : TG} {cl : List (Str × Addr)} (own ys : List Str) (js : List Nat) (hclos : closureFor scope X.env = pure cl) (hi : PI X tg iter wi)
    (hg : ∀ C s H fp, PG (cxC X (own ++ ys) s H (compEnvC scope cl C X.env) fp) tg g) (he : ∀ C s H fp, PE (cxC X (own ++ ys) s H (compEnvC scope cl C X.env) fp) elt te) (hcalm : X.calm = true) (hkind : scope.kind = .function)
    (hcell : (scope.names.all fun y => y.2 != .cell) = true) (hnames : (scope.names.all fun y => y.2 != .local || scope.names.lookup y.1 == some .local) = true) (hfr : (scope.names.all fun y => y.2 != .free || (cl.map (·.1)).contains y.1) = true)
    (hcl : CellL X.env.cells cl) (hcap : CapL X (relabel scope X.env) cl ys js) (hN : X.N.Nodup) (hi' : X.N[i]? = some y) (hy : X.env.scope.names.lookup y = some .local) (hs : ∀ x, foldedSetIterable iter X.env x = pure x := by intro _; rfl) (hsw : swapsWith (.ListComp elt [⟨tg, iter, [], 0⟩] scope pos) (some (.Name y py)) spos.line X.env = pure true := by rfl) :
    PS X (.Assign [.Name y py] (.ListComp elt [⟨tg, iter, [], 0⟩] scope pos) spos) (tAsg (dComp wi g te own.length js) (gName i)) := by
  rw [List.all_eq_true] at hcell hnames hfr
  have hc : ∀ y ∈ scope.names, y.2 ≠ .cell := fun y hy z => by
    have := hcell y hy
    rw [z] at this
    cases this
  refine ps_comp0 own.length js hi hg he hcalm hclos hkind hc (fun y hy z => ?_) hcl.at (fun y h => ?_) (by rw [List.length_append, hcap.len]) (fun i j e => ?_) hs hN hi' hy hsw
  · have := hnames y hy
    rw [z] at this
    simpa using this
  · obtain ⟨z, hz, rfl, hk⟩ : ∃ z ∈ scope.names, z.1 = y ∧ (z.2 = .free ∨ z.2 = .cell) := by
      rcases h with h | h
      · exact relabel_has h (.inl rfl)
      · exact relabel_has h (.inr rfl)
    rcases hk with hk | hk
    · have := hfr z hz
      rw [hk] at this
      exact lookup_has (by simpa using this)
    · exact absurd hk (hc z hz)
  · obtain ⟨y, h1, h2⟩ := hcap.at i j e
    exact ⟨y, by rw [List.getElem?_append_right (Nat.le_add_right _ _), Nat.add_sub_cancel_left]; exact h1, h2⟩
end
end Lw
end
section
set_option Elab.async false
set_option linter.all false
set_option maxRecDepth 100000
set_option maxHeartbeats 4000000
namespace Lw
open PySem PySem.Spec PyProof.Rows L2
section
variable {X : Cx} {pos p2 p3 p4 : Pos} {e : Expr} {te : TE}
def dSlS : V → Option Int → Option Int → Hp → VK → Prop := fun x lo hi H Q => match x with
  | .str z => z.length ≤ sizeLine ∧ Q (.str (Txt.slice z lo hi)) H
  | _ => False
theorem sl_str : SlR X dSlS := by
  intro pins s σ H x v vl vu lo hi sl Q I rx hs pl pu h
  cases x <;> first
    | exact False.elim h
    | (obtain ⟨hz, q⟩ := h
       obtain ⟨t, rfl⟩ := rx
       refine ⟨"str", _, F.slot_str_getitem.lookup, typeIs_str _ _ _, ?_⟩
       cases pl <;> cases pu
       · exact wpAny_getItem_str_slice (l := none) (u := none) (st := none) hs rfl (post_val_or_str ⟨Nat.le_trans (Txt.slice_le _ _ _) hz, fun t' k => ⟨.str _, H, I.tok _, ⟨_, rfl⟩, q⟩⟩)
       · exact wpAny_getItem_str_slice (l := none) (u := some (_, _)) (st := none) hs rfl (post_val_or_str ⟨Nat.le_trans (Txt.slice_le _ _ _) hz, fun t' k => ⟨.str _, H, I.tok _, ⟨_, rfl⟩, q⟩⟩)
       · exact wpAny_getItem_str_slice (l := some (_, _)) (u := none) (st := none) hs rfl (post_val_or_str ⟨Nat.le_trans (Txt.slice_le _ _ _) hz, fun t' k => ⟨.str _, H, I.tok _, ⟨_, rfl⟩, q⟩⟩)
       · exact wpAny_getItem_str_slice (l := some (_, _)) (u := some (_, _)) (st := none) hs rfl (post_val_or_str ⟨Nat.le_trans (Txt.slice_le _ _ _) hz, fun t' k => ⟨.str _, H, I.tok _, ⟨_, rfl⟩, q⟩⟩))
def dAddS : R2 := fun x y H Q => match x, y with
  | .str i, .str j => i.length + j.length ≤ sizeLine ∧ Q (.str (i ++ j)) H
  | _, _ => False
theorem o_addS : OpR X (binaryOp .Add) dAddS := by
  intro pins s σ H x y v u Q I rx ry q
  cases x <;> cases y <;> first
    | exact False.elim q
    | exact op_add_str _ _ _ _ _ _ _ _ _ I rx ry ⟨_, _, rfl, rfl, q.1, q.2⟩
def dIxS : R2 := fun x y H Q => match x, y with
  | .str z, .int i => ∃ c, z.length ≤ sizeLine ∧ atI z.cps.toList i = some c ∧ Q (.str ⟨#[c]⟩) H
  | _, _ => False
theorem i_str : IxR X dIxS := by
  intro value slice pins s σ H x y v u Q I rx ry h hs
  cases x <;> cases y <;> first
    | exact False.elim h
    | (obtain ⟨c, h1, h2, q⟩ := h
       exact ix_str value slice pins s σ H _ _ v u Q I rx ry ⟨_, _, c, rfl, rfl, h1, h2, q⟩ hs)
def dJoin (K : PySem.W.Frag) : V → List V → Hp → VK → Prop := fun x xs H Q => match x, xs with
  | .str sep, [.ref p] => ∃ ys : List Str, SqL K H p (ys.map V.str) ∧ (ys.map (·.length)).sum + ys.length * sep.length ≤ 16777216 ∧ Q (.str (Txt.join sep ys)) H
  | _, _ => False
def dListOf (K : PySem.W.Frag) : List V → Hp → VK → Prop := fun xs H Q => match xs with
  | [.ref p] => ∃ ys, (SqL K H p ys ∨ SqT K H p ys) ∧ ∀ l H', Same H H' → H' l = some (.lst ys) → Q (.ref l) H'
  | _ => False
def dTupOf (K : PySem.W.Frag) : List V → Hp → VK → Prop := fun xs H Q => match xs with
  | [.ref p] => ∃ ys, SqL K H p ys ∧ ∀ l H', Same H H' → H' l = some (.tup ys) → Q (.ref l) H'
  | _ => False
def dInS (K : PySem.W.Frag) : R2 := fun x y H Q => match y with
  | .ref p => ∃ xs, (SqL K H p xs ∨ SqT K H p xs) ∧ flatV x = true ∧ xs.all flatV = true ∧ Q (.bl (inV x xs)) H
  | _ => False
def dRev (K : PySem.W.Frag) (te : TE) : TE := fun σ H Q => te σ H fun x H1 => match x with
  | .ref a => ∃ xs, SqL K H1 a xs ∧ ∀ p H', Same H1 H' → H' p = some (.lst xs.reverse) → Q (.ref p) H'
  | _ => False
end
end Lw
end
section
set_option Elab.async false
set_option linter.all false
set_option maxRecDepth 100000
set_option maxHeartbeats 4000000
namespace Lw
open PySem PySem.Spec PyProof.Rows L2
def co (x : Str) : List Nat := x.cps.toList
theorem co_len (x : Str) : (co x).length = x.length := by simp [co, Str.length]
theorem co_app (x y : Str) : co (x ++ y) = co x ++ co y := by
  show (x.cps ++ y.cps).toList = x.cps.toList ++ y.cps.toList
  rw [Array.toList_append]
theorem co_one (c : Nat) : co ⟨#[c]⟩ = [c] := rfl
theorem len_app (x y : Str) : (x ++ y).length = x.length + y.length := by
  rw [← co_len, co_app, List.length_append, co_len, co_len]
theorem rng_gen (a b : Nat) : sliceRange (a : Int) (b : Int) 1 = (List.range (b - a)).map (fun k => a + k) := by
  unfold sliceRange
  simp only [show ((1 : Int) > 0) = True from by simp, if_true]
  by_cases h : (a : Int) < b
  · have e3 : (((b : Int) - a + 1 - 1) / 1).toNat = b - a := by omega
    simp only [h, if_true, e3]
    refine List.map_congr_left fun k _ => ?_
    omega
  · have : b - a = 0 := by omega
    simp [h, this]
theorem clip_gen (n d : Nat) (i : Int) : max (0 : Int) (min (if i < 0 then i + (n : Int) else i) (n : Int)) = ((HT.sIx n d (some i) : Nat) : Int) := by
  show _ = (((if i < 0 then (i + (n : Int)).toNat else min i.toNat n) : Nat) : Int)
  by_cases h : i < 0
  · simp only [if_pos h]; omega
  · simp only [if_neg h]; omega
theorem idx_gen (lo hi : Option Int) (n : Nat) : Builtin.Str.strSliceIndices lo hi 1 n = (List.range (HT.sIx n n hi - HT.sIx n 0 lo)).map (fun k => HT.sIx n 0 lo + k) := by
  rw [← rng_gen]
  unfold Builtin.Str.strSliceIndices
  simp only [show ((1 : Int) > 0) = True from by simp, if_true]
  cases lo with
  | none =>
    cases hi with
    | none => rfl
    | some j =>
      show sliceRange 0 (max (0 : Int) (min (if j < 0 then j + (n : Int) else j) (n : Int))) 1 = _
      rw [clip_gen n n j]
      rfl
  | some i =>
    cases hi with
    | none =>
      show sliceRange (max (0 : Int) (min (if i < 0 then i + (n : Int) else i) (n : Int))) (n : Int) 1 = _
      rw [clip_gen n 0 i]
      rfl
    | some j =>
      show sliceRange (max (0 : Int) (min (if i < 0 then i + (n : Int) else i) (n : Int))) (max (0 : Int) (min (if j < 0 then j + (n : Int) else j) (n : Int))) 1 = _
      rw [clip_gen n 0 i, clip_gen n n j]
theorem co_slice (x : Str) (lo hi : Option Int) : co (Txt.slice x lo hi) = ((co x).drop (HT.sIx x.length 0 lo)).take (HT.sIx x.length x.length hi - HT.sIx x.length 0 lo) := by
  have ha := HT.sIx_le x.length 0 (Nat.zero_le _) lo
  have hb := HT.sIx_le x.length x.length (Nat.le_refl _) hi
  have hl := co_len x
  unfold Txt.slice
  rw [idx_gen]
  generalize HT.sIx x.length 0 lo = a at *
  generalize HT.sIx x.length x.length hi = b at *
  split
  · rename_i h
    have h2 : b - a = x.length := by simpa using h
    have a0 : a = 0 := by omega
    subst a0
    rw [List.drop_zero, List.take_of_length_le (by omega)]
  · have p := StrLaws.picks (co x) (b - a) a (by omega)
    rw [← p]
    show (List.filterMap _ _).toArray.toList = _
    rw [List.toList_toArray]
    congr 1
    funext k
    show x.cps[k]? = x.cps.toList[k]?
    rw [Array.getElem?_toList]
theorem co_to {x : Str} {j : Nat} (h : j ≤ x.length) : co (Txt.slice x none (some (j : Int))) = (co x).take j := by
  rw [co_slice, HT.sIx_none, HT.sIx_nat, Nat.min_eq_left h, List.drop_zero, Nat.sub_zero]
theorem co_from {x : Str} {i : Nat} (h : i ≤ x.length) : co (Txt.slice x (some (i : Int)) none) = (co x).drop i := by
  rw [co_slice, HT.sIx_none, HT.sIx_nat, Nat.min_eq_left h, List.take_of_length_le]
  rw [List.length_drop, co_len]
  exact Nat.le_refl _
def abc : Str := Str.ofString "abcdefghijklmnopqrstuvwxyz"
def lt (n : Int) : Nat := 97 + (n % 26).toNat
structure Nm (x : Str) : Prop where
  len1 : 1 ≤ (co x).length
  len8 : (co x).length ≤ 8
  abc : ∀ c ∈ co x, 97 ≤ c ∧ c < 123
theorem ok_of {x : Str} (h : ∀ c ∈ co x, c < 1114112) : PyData.strOk x = true := by
  unfold PyData.strOk
  rw [← Array.all_toList, List.all_eq_true]
  exact fun c hc => decide_eq_true (h c hc)
def baseL (fi : Int) : List Nat := ((List.range 8).map fun j : Nat => [lt (fi + (j : Int) * j)]).flatten
def nameA (L : List Nat) (k : Nat) : List Nat := L.take (k + 1)
def nameB (L : List Nat) (at' sz : Nat) (fi : Int) (k : Nat) : List Nat := L.take at' ++ [lt (fi + (at' : Int) * at' + (k : Int))] ++ (L.drop (at' + 1)).take (sz - (at' + 1))
end Lw
end
section
set_option Elab.async false
set_option linter.all false
set_option maxRecDepth 100000
set_option maxHeartbeats 4000000
set_option autoImplicit false
namespace Lw
open PySem PySem.Spec PyProof.Rows L2
def vB : List Value := [.type "ValueError", .type "Exception", .type "BaseException", .type "object"]
structure ExcC (K : PySem.W.Frag) (C : Addr) : Prop where
  nw : PySem.W.excIn K C vB "ValueError.__new__" = true
  ga : PySem.W.findIn K (.ref C) "__getattribute__" = some (some (.builtin "BaseException.__getattribute__"))
  gn : PySem.W.findIn K (.ref C) "__getattr__" = some none
  cl : PySem.W.findIn K (.ref C) "__class__" = some (some (.builtin "object.__class__"))
  mo : PySem.W.mroIn K C (.type "object") = some true
  mb : PySem.W.mroIn K C (.type "BaseException") = some true
theorem own_cls {K : PySem.W.Frag} {h : Heap} {mg : Str → Option Value} {x : Str} {C : Addr} {bmB : List Value} {newId : String} (X : K.In h) (b : mg x = some (.ref C)) (q : PySem.W.excIn K C bmB newId = true) : OwnCls x C bmB newId mg h := by
  refine ⟨b, ?_⟩
  unfold PySem.W.excIn at q
  split at q
  · rename_i d0 cd sl lk
    split at q
    · rename_i C' bm a0 a1 a2 a3 n a5 hm hs
      simp only [Bool.and_eq_true, beq_iff_eq, Bool.not_eq_true'] at q
      obtain ⟨⟨⟨⟨⟨e1, e2⟩, hdel⟩, ht⟩, hok⟩, hni⟩ := q
      subst e1 e2
      obtain ⟨nm, bs, mro, ns, qn, hd, sn, sub, ab, col, del⟩ := cd
      dsimp only at hm hdel hok hni
      subst hm hdel
      have e : sl = #[a0, a1, a2, a3, some (.builtin n), a5] := by
        obtain ⟨l⟩ := sl
        simp only at hs
        rw [hs]
      subst e
      have N0 : h.isNs ns = true := PySem.W.isNs_of_in X hok
      exact ⟨bm, ns, nm, qn, bs, hd, sn, sub, ab, col, d0, a0, a1, a2, a3, a5, _, X _ _ lk, .of_isNs N0, PySem.W.nsMap_none_of_in X hok hni, PySem.W.tail_of_in X ht⟩
    · cases q
  · cases q
theorem exc_lk {K : PySem.W.Frag} {C : Addr} {bmB : List Value} {newId : String} (q : PySem.W.excIn K C bmB newId = true) : ∃ dd cd sl, K.lookup C = some ⟨.type "type", dd, .cls cd, sl⟩ := by
  unfold PySem.W.excIn at q
  split at q
  · rename_i d0 cd sl lk
    exact ⟨_, _, _, lk⟩
  · cases q
def tRaise (E : XK) (cls : Value) : TS := fun _ _ H => E cls none H
section
variable {P : Program} {w : World} {K : PySem.W.Frag} {mg : Str → Option Value} {base : Heap} {N : List Str} {qual : Str} {scope : Scope} {f : Addr} {cd : Value} {A : Around} {outer : List Env} {s₀ : Shared} {H₀ : Hp} {E : XK}
theorem ps_raise {x : Str} {C : Addr} {np cpos pos p : Pos} {txt : Str} {j : Nat} (hb : mg x = some (.ref C)) (c : ExcC K C) (hg : Gl (cxOf (CXE P w) P w K mg base N qual scope f cd A outer s₀ H₀ E) x) (hd : (x == ("__debug__" : Str)) = false := by decide) :
    PS (cxOf (CXE P w) P w K mg base N qual scope f cd A outer s₀ H₀ E) (.Raise (some (.Call (.Name x np) [.Constant (.str txt) j p] [] cpos)) none pos) (tRaise E (.ref C)) := by
  intro pins s σ H D I h
  have O := own_cls (h := s.heap) I.kIn hb c.nw
  obtain ⟨tl, ns, nm, q, bs, hdct, sn, sub, ab, col, dd, k0, k1, k2, k3, k5, mN, hC, hN, hni, T⟩ := O.obj
  have FB := PySem.F.excBase_ValueError
  refine wpAny_Raise_call_subT (C := C) (nm := nm) (q := q) (N := ns) (bs := bs) (bm := tl) (hdct := hdct) (sn := sn) (sub := sub) (ab := ab) (col := col) (dd := dd) (k0 := k0) (k1 := k1) (k2 := k2) (k3 := k3) (k5 := k5)
    (mN := mN) FB (T.hasType FB.hasBase) (I.ok.hd rfl) rfl hni (ld_glob I hg hb ⟨rfl, ?_⟩ hd)
  refine Calls.evalArgs_plain ?_
  refine spliced_more (Calls.Constant_str (Calls.spliced_nil ?_))
  exact ⟨rfl, (by show 1 ≤ sizeLine; decide), hC, hN, T, fun h' e hx => raiseX (I.tok _) hx h⟩
end
def dCallX (sp : Sp) (E : XK) (t : TA) : TE := fun σ H Q => t σ H fun vs H1 => sp vs H1 Q E
section
variable {P : Program} {w : World} {K : PySem.W.Frag} {mg : Str → Option Value} {base : Heap} {N : List Str} {qual : Str} {scope : Scope} {f : Addr} {cd : Value} {A : Around} {outer : List Env} {s₀ : Shared} {H₀ : Hp} {E : XK}
theorem e_callX {x : Str} {ps : List Str} {k k' : Nat} {sp : Sp} {p pos : Pos} {e : Expr} {es : List Expr} {t : TA} (C : Cal P w K mg base x ps k sp) (hr : Room k' (cxOf (CXE P w) P w K mg base N qual scope f cd A outer s₀ H₀ E).A) (hk : k ≤ k') (hg : Gl (cxOf (CXE P w) P w K mg base N qual scope f cd A outer s₀ H₀ E) x)
    (ha : PA (cxOf (CXE P w) P w K mg base N qual scope f cd A outer s₀ H₀ E) (e :: es) t) (hdb : (x == ("__debug__" : Str)) = false := by decide)
    (he : starEach (e :: es) (cxOf (CXE P w) P w K mg base N qual scope f cd A outer s₀ H₀ E).env = (false, eval e (cxOf (CXE P w) P w K mg base N qual scope f cd A outer s₀ H₀ E).env) :: starEach es (cxOf (CXE P w) P w K mg base N qual scope f cd A outer s₀ H₀ E).env := by rfl)
    (hpl : (backTo pos (starEach es (cxOf (CXE P w) P w K mg base N qual scope f cd A outer s₀ H₀ E).env)).any (·.1) = false := by rfl) :
    PE (cxOf (CXE P w) P w K mg base N qual scope f cd A outer s₀ H₀ E) (.Call (.Name x p) (e :: es) [] pos) (dCallX sp E t) := by
  obtain ⟨f', fd, h1, h2, h3, h4, _⟩ := C.ex
  have z := pe_call (X := cxOf (CXE P w) P w K mg base N qual scope f cd A outer s₀ H₀ E) (pos := pos) (p := p) (h4.mono hk) hr hg h1 h2 h3 .nil (passX (E := E)) ha hdb he hpl
  have e1 : tCall sp [] E t = dCallX sp E t := by
    funext σ H Q
    unfold tCall dCallX
    simp only [List.append_nil]
  rw [e1] at z
  exact z
end
def ExcAt (a C : Addr) : Heap → Prop := fun h => ∃ o vs, h.get? a = some o ∧ o.cls = .ref C ∧ o.data = .fields vs
section
variable {prog : Program} {w : World} {A : Around} {E : Value → Shared → Prop} {K : PySem.W.Frag} {x C : Addr}
theorem exc_ty {M : Model} {h : Heap} (p : ExcAt x C h) : PySem.W.Looks M h (typeOf (.ref x)) (.ref C) := by
  obtain ⟨o, vs, e, c, _⟩ := p
  exact c ▸ (PySem.W.Looks.ld e).andThen .now
theorem exc_gcls {R : Result → Shared → Prop} {s : Shared} {tp : Value} (X : K.In s.heap) (p : ExcAt x C s.heap) (c : ExcC K C) (h : R (.ok (.ret (.ref C))) s) :
    codeAny (model prog w) A (.call (.builtin "getset_descriptor.__get__") ⟨[.builtin "object.__class__", .ref x, tp], []⟩) R s := by
  obtain ⟨hh, g, d, t, os⟩ := s
  have l1 := exc_ty (M := model prog w) p
  have l2 := PySem.W.looks_mroIn (M := model prog w) X c.mo
  refine codeAny_call_builtin PySem.W.KF.slot_gs.plain PySem.W.KF.entry_gs ?_
  refine PySem.W.KF.slot_gs.check _ _ _ _ _ _ _ _ PySem.W.KF.type_class (PySem.W.KF.args_gs _ _ _) ?_
  unfold Builtin.«getset_descriptor.__get__» Builtin.Getset_descriptor.descrGet
  rw [PySem.W.dga_obj]
  refine wpAny_bind (wpAny_pure ?_)
  unfold Builtin.Getset_descriptor.descrGetter Builtin.Getset_descriptor.descrCheckInstance
  unfold Builtin.Getset_descriptor.descrNameAndClass isInstance
  simp only [PySem.W.KF.owner_class]
  repeat lk
  refine ⟨Code.quiet_builtin _ (by decide +kernel), ?_⟩
  refine codeAny_builtin PySem.W.KF.entry_class ?_
  unfold Builtin.«object.__class__» shownTypeOf
  repeat lk
  exact h
theorem exc_chk {M : Model} {h : Heap} {g : Array GenState} {d : Drawn} {t : Nat} {os : OsState} {nameV : Value} {Q : Unit → Shared → Prop} (X : K.In h) (p : ExcAt x C h) (c : ExcC K C) (hq : Q () ⟨h, g, d, t, os⟩) :
    wpAny M A (checkBuiltinCall "BaseException.__getattribute__" ⟨[.ref x, nameV], []⟩) Q E ⟨h, g, d, t, os⟩ := by
  have e1 : builtinKind "BaseException.__getattribute__" = some .slot := by decide +kernel
  have e2 : splitId "BaseException.__getattribute__" = some ("BaseException", "__getattribute__") := by decide +kernel
  have l1 := exc_ty (M := M) p
  have l2 := PySem.W.looks_mroIn (M := M) X c.mb
  have l3 : PySem.W.Looks M h (isInstance (.ref x) (.type "BaseException")) true := l1.andThen l2
  have ar := F.args_bexc_ga (.ref x) nameV
  simp only [checkBuiltinCall, e1, e2]
  refine wpAny_bind (l3.at ?_)
  repeat (first | assumption | wp_step)
theorem exc_get {s : Shared} {tk : Tok} {Q : Fin → Shared → Prop} (X : K.In s.heap) (p : ExcAt x C s.heap) (c : ExcC K C) (hq : Q (.done (.ret (.ref C))) s) :
    wpAny (model prog w) A (Builtin.«object.__getattribute__» ⟨[.ref x, .str "__class__" tk], []⟩) Q E s := by
  obtain ⟨h, g, d, t, os⟩ := s
  have l1 := exc_ty (M := model prog w) p
  have l2 := PySem.W.looks_findIn (M := model prog w) X c.cl
  have f5 := F.typeOf_object_class
  have f6 := F.slot_gs_get.lookup
  have f7 := F.slot_gs_set.lookup
  unfold Builtin.«object.__getattribute__»
  repeat (first | with_reducible refine l1.at ?_ | with_reducible refine l2.at ?_ | wp_step)
  refine exc_gcls X p c ?_
  repeat (first | assumption | wp_step)
theorem exc_class {s : Shared} {Q : Option Value → Shared → Prop} (X : K.In s.heap) (p : ExcAt x C s.heap) (c : ExcC K C) (hq : Q (some (.ref C)) { s with toks := s.toks + 1 }) :
    wpAny (model prog w) A (getAttr? (.ref x) "__class__") Q E s := by
  obtain ⟨h, g, d, t, os⟩ := s
  have l1 := exc_ty (M := model prog w) p
  have l2 := PySem.W.looks_findIn (M := model prog w) X c.ga
  have l3 := PySem.W.looks_findIn (M := model prog w) X c.gn
  have b1 := PySem.F.attr_ValueError.ga.bind (.ref x)
  unfold getAttr? getAttrBy?
  unfold getAttrBy
  refine wpAny_bind (wpAny_mkText (wpAny_bind (wpAny_attempt (wpAny_holding (wpAny_bind (l1.at (wpAny_bind (l2.at ?_))))))))
  show wpAny _ _ (getAttrByItsOwn _ _ _ _ _ _) _ _ _
  unfold getAttrByItsOwn
  refine wpAny_bind (l3.at ?_)
  refine wpAny_bind (wpAny_attempt (wpAny_holding ?_))
  show wpAny _ _ (boundAndCalled _ _ _) _ _ _
  unfold boundAndCalled
  rw [b1]
  refine wpAny_bind (wpAny_pure ?_)
  refine wpAny_call (codeAny_call_builtin PySem.F.attr_ValueError.ga.plain F.entry_bexc_ga ?_)
  refine exc_chk X p c ?_
  refine exc_get (s := ⟨h, g, d, t + 1, os⟩) X p c ?_
  exact wpAny_pure (wpAny_pure hq)
theorem exc_kit (c : ExcC K C) : PySem.W.KitX K (.ref x) (.ref C) (ExcAt x C) where
  ty := fun M h _ p => exc_ty p
  it := fun M h X p => by
    obtain ⟨dd, cd, sl, lk⟩ := exc_lk c.nw
    intro A' Q' E' s' k q
    unfold isType loadHead
    exact wpAny_bind (wpAny_loadPart (k _ _ (X _ _ lk)) (wpAny_pure q))
  ne := fun h tp d' its n sl X e => by
    obtain ⟨dd, cd, sl', lk⟩ := exc_lk c.nw
    refine Bool.eq_false_iff.mpr fun q => ?_
    have e2 : C = tp := Value.ref.inj (beq_iff_eq.mp q)
    subst e2
    have z := congrArg Obj.cls (Option.some.inj ((X _ _ lk).symm.trans e))
    exact absurd (Value.type.inj z) (by decide)
  ca := fun X p q => exc_class X p c q
end
section
variable {X : Cx}
def dIsiX (K : PySem.W.Frag) : List V → Hp → VK → Prop := fun xs H Q => match xs with
  | [.ref p, .ref D] => ∃ C b, H p = some (.ext (ExcAt p C)) ∧ ExcC K C ∧ PySem.W.kitOne K (.ref C) (.ref D) = some b ∧ Q (.bl b) H
  | [.ref p, .ty T] => ∃ C b, H p = some (.ext (ExcAt p C)) ∧ ExcC K C ∧ PySem.W.kitOne K (.ref C) (.type T) = some b ∧ Q (.bl b) H
  | _ => False
theorem c_isiX : CallR X (.builtin "isinstance") (dIsiX X.K) := by
  intro pins s σ H xs us Q I r h
  match xs, h with
  | [.ref p, .ref D], ⟨C, b, e, c, k, q⟩ =>
    obtain ⟨u, v, rfl, r1, r2⟩ := vals2 r
    cases (show u = Value.ref p from r1)
    cases (show v = Value.ref D from r2)
    have o : ObjOk X.prog X.w H s.heap p (.ext (ExcAt p C)) := I.hok p _ e
    exact PySem.W.kia_one (exc_kit c) I.kIn o.1 k (fun z => nomatch z) fun tk => ⟨.bl b, H, I.tok _, rfl, q⟩
  | [.ref p, .ty T], ⟨C, b, e, c, k, q⟩ =>
    obtain ⟨u, v, rfl, r1, r2⟩ := vals2 r
    cases (show u = Value.ref p from r1)
    cases (show v = Value.type T from r2)
    have o : ObjOk X.prog X.w H s.heap p (.ext (ExcAt p C)) := I.hok p _ e
    exact PySem.W.kia_one (exc_kit c) I.kIn o.1 k (fun z => nomatch z) fun tk => ⟨.bl b, H, I.tok _, rfl, q⟩
theorem vals_refs : ∀ {ds : List Addr} {us : List Value}, Vals (ds.map V.ref) us → us = ds.map Value.ref
  | [], _, r => by cases r; rfl
  | d :: ds, _, r => by
    cases r with
    | cons r1 r2 => rw [show _ = Value.ref d from r1, vals_refs r2]; rfl
def dIsiT (K : PySem.W.Frag) : List V → Hp → VK → Prop := fun xs H Q => match xs with
  | [.ref p, .ref t] => ∃ (C : Addr) (b : Bool) (ds : List Addr), H p = some (.ext (ExcAt p C)) ∧ ExcC K C ∧ H t = some (.tup (ds.map V.ref)) ∧ PySem.W.kitAny K (.ref C) (ds.map Value.ref) = some b ∧ Q (.bl b) H
  | _ => False
theorem c_isiT : CallR X (.builtin "isinstance") (dIsiT X.K) := by
  intro pins s σ H xs us Q I r h
  match xs, h with
  | [.ref p, .ref t], ⟨C, b, ds, e, c, et, k, q⟩ =>
    obtain ⟨u, v, rfl, r1, r2⟩ := vals2 r
    cases (show u = Value.ref p from r1)
    cases (show v = Value.ref t from r2)
    have o : ObjOk X.prog X.w H s.heap p (.ext (ExcAt p C)) := I.hok p _ e
    obtain ⟨_, its, rv, ob, e1, e2, n, e3⟩ := (show ObjOk X.prog X.w H s.heap t (.tup (ds.map V.ref)) from I.hok t _ et)
    obtain ⟨oc, od, oda, osl⟩ := ob
    dsimp only at e2 e3
    subst e2 e3
    rw [vals_refs rv] at e1
    exact PySem.W.kia_tup (exc_kit c) I.kIn o.1 e1 k (fun z => nomatch z) fun tk => ⟨.bl b, H, I.tok _, rfl, q⟩
end
theorem kitN {K : PySem.W.Frag} {t : Value} : PySem.W.kitAny K t (([] : List Addr).map Value.ref) = some false := rfl
theorem kitF {K : PySem.W.Frag} {t : Value} {d : Addr} {ds : List Addr} (h : PySem.W.kitOne K t (.ref d) = some false) (r : PySem.W.kitAny K t (ds.map Value.ref) = some false) : PySem.W.kitAny K t ((d :: ds).map Value.ref) = some false := by
  rw [List.map_cons]
  unfold PySem.W.kitAny
  rw [h]
  exact r
section
variable {X : Cx} {pins : List (Addr × Obj)} {σ : L2.St} {H : Hp} {s : Shared}
theorem name_goes {M : Model} {A : Around} {E : Value → Shared → Prop} {Q : Unit → Shared → Prop} {n : Nat} {x : Str} {pos : Pos} (I : Inv X pins σ H s) (nd : X.N.Nodup) (hn : X.N[n]? = some x) (hl : X.env.scope.names.lookup x = some .local)
    (k : ∀ s', Inv X pins (σ.set n none) H s' → Q () s') : wpAny M A (do bindName X.env x .none; unbindBehindTheSuite X.env x pos) Q E s := by
  refine wpAny_bind (wpAny_bindName (store_ok I nd hn (.inl hl) (v := .non) (u := .none) rfl (fun s1 I1 => ?_) (.inr hl)))
  obtain ⟨m, hns, hloc⟩ := id I1.loc
  have hlen : n < σ.length := by rw [I.len]; exact (List.getElem?_eq_some_iff.mp hn).1
  have hm : m x = some .none := by
    obtain ⟨u, ru, lk⟩ := hloc n x .non hn (by rw [List.getElem?_set_self hlen]) (.inl hl)
    cases (show u = Value.none from ru)
    rcases lk with ⟨_, e⟩ | ⟨z, _⟩
    · exact e
    · have z' : X.env.scope.names.lookup x = some .cell ∨ X.env.scope.names.lookup x = some .free := z
      rw [hl] at z'
      rcases z' with z' | z' <;> cases z'
  have hp : (X.env.scope.kind == .class || (X.env.scope.kind == .module && X.env.locals != X.env.globals)) = false := by rw [I.ok.kind]; rfl
  have hl' : X.env.kindOf x = some .local := hl
  unfold unbindBehindTheSuite
  refine wpAny_onRaise ?_
  unfold unbindName
  refine wpAny_bind (wpAny_point (wpAny_bind ?_))
  unfold deleteName
  simp only [hl', hp]
  rw [if_neg (by decide)]
  refine wpAny_bind (wpAny_nsDel_keeps hns fun h2 v hn2 sb => ?_)
  rw [hm]
  simp only [if_true, Option.isSome_some, Bool.not_true, Bool.false_eq_true, if_false]
  refine wpAny_pure (wpAny_point (k _ ?_))
  have ne : ∀ b o, X.s₀.heap.get? b = some o → b ≠ X.env.locals := fun b o e => Nat.ne_of_lt (Nat.lt_of_lt_of_le (Heap.lt_size e) I.ok.above)
  refine ⟨I1.ok, I1.os, I1.bare, ⟨fun b o e n' hb hx => ?_, fun b o e n' hb hx => ?_, I1.base.free, fun b o e hx => ?_, I1.base.tups, I1.base.frzs, I1.base.tbls⟩, ⟨_, hn2, fun j y v' e1 e2 e3 => ?_⟩, fun y c e => ?_, I1.free, I1.freeC, fun p hp => ?_, fun b u e => ?_, ?_⟩
  · exact (sb.2 b (ne b o e)).trans (I1.base.keep b o e n' hb hx)
  · obtain ⟨sl, q⟩ := I1.base.slot b o e n' hb hx
    exact ⟨sl, (sb.2 b (ne b o e)).trans q⟩
  · obtain ⟨o', q⟩ := I1.base.there b o e hx
    exact ⟨o', (sb.2 b (ne b o e)).trans q⟩
  · have hj : j ≠ n := by
      rintro rfl
      rw [List.getElem?_set_self hlen] at e2
      cases e2
    rw [List.getElem?_set_ne (Ne.symm hj)] at e2
    obtain ⟨u', r', q⟩ := hloc j y v' e1 (by rw [List.getElem?_set_ne (Ne.symm hj)]; exact e2) e3
    refine ⟨u', r', ?_⟩
    rcases q with ⟨kk, e⟩ | ⟨kk, c, e, z⟩
    · refine .inl ⟨kk, ?_⟩
      have hy : y ≠ x := fun z => hj (nodup_ix nd e1 (z ▸ hn))
      show (if y = x then v else m y) = some u'
      rw [if_neg hy]
      exact e
    · exact .inr ⟨kk, c, e, z.sameBut sb (I1.cne y c e)⟩
  · obtain ⟨w', z⟩ := I1.cell y c e
    exact ⟨w', z.sameBut sb (I1.cne y c e)⟩
  · obtain ⟨q, q2, q3, q4⟩ := I1.pin p hp
    exact ⟨(sb.2 p.1 q3).trans q, q2, q3, q4⟩
  · refine (I1.hok b u e).stay (fun c v' hc q => (sb.2 c ?_).trans q) (fun _ q => q) fun _ _ q => q
    rintro rfl
    rcases hc with z | z
    · subst z
      rw [I1.free] at e
      cases e
    · rw [I1.free] at z
      cases z
  · have z := I1.len
    simp only [List.length_set] at z ⊢
    exact z
end
abbrev cxM (X : Cx) (v : Value) : Cx := { X with A := X.A.mark (some v), calm := false, xe := fun _ _ => False }
section
variable {X : Cx} {pins : List (Addr × Obj)} {σ : L2.St} {H : Hp} {s : Shared}
theorem inv_mark (I : Inv X pins σ H s) (v : Value) : Inv (cxM X v) pins σ H s :=
  ⟨⟨I.ok.mod, I.ok.kind, I.ok.glob, I.ok.blt, I.ok.above, I.ok.inj, I.ok.has, I.ok.cab, fun z => (nomatch z), I.ok.frames, I.ok.stk, I.ok.exf, I.ok.bs, I.ok.bsz, I.ok.noex, I.ok.exfs, I.ok.funs, I.ok.frf⟩, I.os, I.bare, I.base, I.loc, I.cell, I.free, I.freeC, I.pin, I.hok, I.len⟩
theorem inv_unmark {v : Value} (ok : X.Ok) (I : Inv (cxM X v) pins σ H s) : Inv X pins σ H s := ⟨ok, I.os, I.bare, I.base, I.loc, I.cell, I.free, I.freeC, I.pin, I.hok, I.len⟩
end
structure Cat (K : PySem.W.Frag) (D : Addr) : Prop where
  lk : ∃ dd cd sl, K.lookup D = some ⟨.type "type", dd, .cls cd, sl⟩
  mb : PySem.W.mroIn K D (.type "BaseException") = some true
theorem ExcC.cat {K : PySem.W.Frag} {C : Addr} (c : ExcC K C) : Cat K C := ⟨exc_lk c.nw, c.mb⟩
theorem exc_match {M : Model} {A : Around} {E : Value → Shared → Prop} {K : PySem.W.Frag} {a C D : Addr} {s : Shared} {Q : Bool → Shared → Prop} (X : K.In s.heap) (p : ∃ o, s.heap.get? a = some o ∧ o.cls = .ref C) (c : Cat K D)
    (hm : PySem.W.mroIn K C (.ref D) = some true) (hq : Q true s) : wpAny M A (excMatches (.ref a) (.ref D)) Q E s := by
  obtain ⟨h, g, d, t, os⟩ := s
  obtain ⟨o, e, ec⟩ := p
  obtain ⟨dd, cd, sl, lk⟩ := c.lk
  have eD := X _ _ lk
  have f := tc_notTuple
  have l1 := PySem.W.looks_mroIn (M := M) X c.mb
  have l2 := PySem.W.looks_mroIn (M := M) X hm
  unfold excMatches
  repeat (first | with_reducible refine l1.at ?_ | with_reducible refine l2.at ?_ | (with_reducible refine wpAny_loadPart_at e ?_; rw [ec]) | with_reducible refine wpAny_loadPart_at eD ?_ | wp_step)
  exact hq
def tTry (K : PySem.W.Frag) (ta : TA) (sp : Sp) (D' : Addr) (n : Nat) (tu : TS) : TS := fun D σ H => ta σ H fun vs H1 => sp vs H1 (fun _ H2 => D.nx σ H2) fun cls _ H2 => ∃ C, cls = .ref C ∧ ExcC K C ∧ PySem.W.mroIn K C (.ref D') = some true ∧
  ∀ a H3, Same H2 H3 → H3 a = some (.ext (ExcAt a C)) → tu { nx := fun σ' H' => D.nx (σ'.set n none) H', rt := D.rt, bk := fun σ' H' => D.bk (σ'.set n none) H', ct := fun σ' H' => D.ct (σ'.set n none) H' } (σ.set n (some (.ref a))) H3
section
variable {X : Cx} {pins : List (Addr × Obj)} {σ : L2.St} {H H' : Hp} {s s' : Shared}
theorem handle_ok {E : Value → Shared → Prop} {a C D' : Addr} {B : Heap} {a0 : Value} {y nm : Str} {yp hpos : Pos} {b₀ : Stmt} {suite : List Stmt} {n : Nat} {tu : TS} {D : Ends} (dx : DefCx X) (I : Inv X pins σ H s) (F : Fly X.prog X.w X.stack H s H' a (.ref C) B a0 s')
    (hy : Gl X y) (hD : X.mg y = some (.ref D')) (cD : Cat X.K D') (hm : PySem.W.mroIn X.K C (.ref D') = some true) (nd : X.N.Nodup) (hn : X.N[n]? = some nm) (hl : X.env.scope.names.lookup nm = some .local) (hu : ∀ v, PSs (cxM X v) (b₀ :: suite) tu)
    (hdb : (y == ("__debug__" : Str)) = false)
    (q : ∀ H3, Same H' H3 → H3 a = some (.ext (ExcAt a C)) → tu { nx := fun σ' H' => D.nx (σ'.set n none) H', rt := D.rt, bk := fun σ' H' => D.bk (σ'.set n none) H', ct := fun σ' H' => D.ct (σ'.set n none) H' } (σ.set n (some (.ref a))) H3) :
    wpAny (model X.prog X.w) X.A (noteFrame (.ref a) X.env) (fun _ s2 => wpAny (model X.prog X.w) X.A (setFlight (.ref a) none) (fun _ s3 =>
      wpAny (model X.prog X.w) X.A (handleBy (.ref a) X.env [.ExceptHandler (some (.Name y yp)) (some nm) (b₀ :: suite) hpos]) (SP X pins D) E s3) E s2) E s' := by
  have hfr : X.A.frames = some (X.env :: X.outer) := by rw [I.ok.frames, dx.stk]
  have hfl := F.fly
  rw [dx.stk] at hfl
  refine wpAny_looks_onW hfr dx.fr hfl fun h4 held u4 => ?_
  refine wpAny_landsW held fun h5 f5 u5 => ?_
  have I5 : Inv X pins σ H' { s' with heap := h5 } := I.call' (s' := { s' with heap := h5 }) (ch := []) F.os (F.un5 f5.1 (u4.trans u5)) (F.hok5 f5.1) F.bare fun b hb => absurd hb (by simp)
  refine wpAny_handleBy_cons (codeAny_handlers_test (ld_glob (inv_mark I5 (.ref a)) hy hD ?_ hdb)) (by intro z; cases z)
  refine exc_match I5.kIn f5.there cD hm ?_
  refine codeAny_handlers_suite_as ?_
  refine lands_againW f5 fun h6 f6 u6 => ?_
  obtain ⟨oe, ws, oe1, oe2, oe3, _⟩ := f6.first
  have up : ∀ b, b ≠ a → upd H' a (.ext (ExcAt a C)) b = H' b := fun b hb => upd_ne hb
  have sm : Same H' (upd H' a (.ext (ExcAt a C))) := fun b o e => by
    rw [up b (ne_of_none e F.free)]
    exact e
  have un0 := F.un5 f6.1 ((u4.trans u5).trans u6)
  have un6 : Un (frs X.stack) [] H (upd H' a (.ext (ExcAt a C))) s.heap h6 :=
    ⟨un0.keep, un0.slot, fun b o e n' hx => by
      have hb : b ≠ a := by
        rintro rfl
        rw [F.fresh] at e
        cases e
      rw [up b hb]
      exact un0.free b o e n' hx, un0.there, fun b xs e => sm b _ (un0.tups b xs e), fun b o u e => sm b _ (un0.frzs b o u e), fun b ps e => by
      obtain ⟨more, e1⟩ := un0.tbls b ps e
      exact ⟨more, sm b _ e1⟩⟩
  have ok0 := F.hok5 f6.1
  have ok6 : HOk X.prog X.w (upd H' a (.ext (ExcAt a C))) h6 := fun b u e => by
    by_cases hb : b = a
    · subst hb
      rw [upd_same] at e
      cases e
      refine ⟨⟨oe, ws, oe1, oe2, oe3⟩, ⟨oe, oe1⟩, fun h1 h2 ⟨o, vs, z1, z2, z3⟩ k => ⟨o, vs, k o z1, z2, z3⟩⟩
    · rw [up b hb] at e
      exact (ok0 b u e).stay (fun _ _ _ q => q) (fun c z => sm c _ z) fun c xs z => sm c _ z
  have I6 : Inv X pins σ (upd H' a (.ext (ExcAt a C))) { s' with heap := h6 } := I.call' (s' := { s' with heap := h6 }) (ch := []) F.os un6 ok6 F.bare fun b hb => absurd hb (by simp)
  refine store_ok (X := cxM X (.ref a)) (inv_mark I6 (.ref a)) nd hn (.inl hl) (v := .ref a) rfl (fun s7 I7 => ?_) (.inr hl)
  refine wpAny_mono (hu (.ref a) pins s7 _ _ _ I7 (q _ sm upd_same)) (fun fl s8 q8 => ?_) fun _ _ z => z.elim
  cases fl with
  | next =>
    obtain ⟨σ8, H8, I8, q8⟩ := q8
    exact name_goes (inv_unmark I.ok I8) nd hn hl fun s9 I9 => ⟨_, H8, I9, q8⟩
  | brk =>
    obtain ⟨σ8, H8, I8, q8⟩ := q8
    exact name_goes (inv_unmark I.ok I8) nd hn hl fun s9 I9 => ⟨_, H8, I9, q8⟩
  | cont =>
    obtain ⟨σ8, H8, I8, q8⟩ := q8
    exact name_goes (inv_unmark I.ok I8) nd hn hl fun s9 I9 => ⟨_, H8, I9, q8⟩
  | ret u =>
    obtain ⟨v, σ8, H8, I8, r8, q8⟩ := q8
    exact name_goes (inv_unmark I.ok I8) nd hn hl fun s9 I9 => ⟨v, _, H8, I9, r8, q8⟩
end
end Lw
end
section
set_option Elab.async false
set_option linter.all false
set_option maxRecDepth 100000
set_option maxHeartbeats 4000000
namespace Lw
open PySem PySem.Spec PyProof.Rows L2
section
variable {X : Cx} {a b c : Expr} {ta tb tc : TE} {pos : Pos} {tg : Expr}
def Cst (mg : Str → Option Value) (x : Str) (v : V) : Prop := ∃ u, mg x = some u ∧ RelV v u
theorem g_cst {x : Str} {v : V} (k : Cst X.mg x v) (hg : Gl X x) (hd : (x == ("__debug__" : Str)) = false := by decide) : PE X (.Name x pos) (tC v) := by
  obtain ⟨u, h1, h2⟩ := k
  exact pe_glob hg h1 h2 hd
def TupK (K : PySem.W.Frag) (a : Addr) (xs : List V) : Prop := ∀ H, SqT K H a xs
def dIxTS (K : PySem.W.Frag) : R2 := fun x y H Q => match x, y with
  | .ref p, .int i => ∃ xs v, SqT K H p xs ∧ atI xs i = some v ∧ Q v H
  | _, _ => False
def dChain (r r' : R2) (ta tb tc : TE) : TE := fun σ H Q => ta σ H fun x H1 => tb σ H1 fun y H2 => r x y H2 fun z H3 => match z with
  | .bl k => Br k (tc σ H3 fun w' H4 => r' y w' H4 Q) (Q (.bl false) H3)
  | _ => False
theorem dChain_eq (r r' : R2) (ta tb tc : TE) : dChain r r' ta tb tc = tChain r r' ta tb tc := by
  funext σ H Q
  unfold dChain tChain
  congr 1
  funext x H1
  congr 1
  funext y H2
  congr 1
  funext z H3
  apply propext
  cases z <;> simp [br_eq]
theorem t_chain {op op' : CmpOp} {r r' : R2} (ho : OpR X (compareOp op) r) (ho' : OpR X (compareOp op') r') (ha : PE X a ta) (hb : PE X b tb) (hc : PE X c tc)
    (hm : lastMarks [op, op'] [b, c] = false := by with_unfolding_all rfl) : PT X (.Compare a [op, op'] [b, c] pos) (dTest (dChain r r' ta tb tc)) := by
  rw [dTest_eq, dChain_eq]
  exact pt_chain ho ho' ha hb hc hm
def dIn1 : R2 := fun x y H Q => match x, y with
  | .str i, .str j => ∃ c, i = ⟨#[c]⟩ ∧ Q (.bl (decide (c ∈ co j))) H
  | _, _ => False
theorem o_in1 : OpR X (compareOp .In) dIn1 := by
  intro pins s σ H x y v u Q I rx ry q
  cases x <;> cases y <;> first
    | exact False.elim q
    | (obtain ⟨k, rfl, q⟩ := q
       exact op_in_str _ _ _ _ _ _ _ _ _ I rx ry ⟨_, _, rfl, rfl, by rw [StrLaws.found_one]; exact q⟩)
def Its (x : Str) : It := ⟨fun i _ => i < x.length, fun i H v H' => H' = H ∧ ∃ c, (co x)[i]? = some c ∧ v = .str ⟨#[c]⟩, fun i _ => x.length ≤ i⟩
theorem turn_strA {P : Program} {w : World} {K : PySem.W.Frag} (x : Str) (t : Tok) (it : Addr) : Turn P w K tg (Its x) [it] it (fun i h => h.IsStrIter it "str_ascii_iterator" x t i) where
  mem := by simp
  obj := fun i h st b hb => by
    have e : b = it := by simpa using hb
    subst e
    obtain ⟨o, e, _, d⟩ := st
    exact ⟨o, e, fun v z => by rw [d] at z; cases z⟩
  keep := fun i h h' st k => by
    obtain ⟨o, e, r⟩ := st
    exact ⟨o, k it (by simp) o e, r⟩
  item := by
    intro X hP hw hK hc i pins s σ H E I hf st hg
    subst hP hw hK
    have hg : i < x.cps.size := hg
    obtain ⟨f0, f1, f2, f3, f4, f5⟩ := hf it (by simp)
    refine wpAny_pyNext_ascii_item st (c := x.cps[i]) (by simp [hg]) fun h' st' sb => ?_
    have I1 : Inv X pins σ H { s with heap := h', toks := s.toks + 1 } := I.turned (fun b o hb e => (sb.2 b hb).trans e) f0 f1 f3 f4 f5
    obtain ⟨o, e, c, d⟩ := id st'
    exact ⟨_, rfl, go_of (s := { s with heap := h', toks := s.toks + 1 }) e c d (by decide) ⟨.str _, H, I1, ⟨_, rfl⟩, ⟨rfl, _, by simp [co, hg], rfl⟩, st', fun b hb => (hf b hb).1⟩⟩
  done := by
    intro X hP hw hK hc i pins s σ H E I hf st hg
    subst hP hw hK
    have hg : x.cps.size ≤ i := hg
    obtain ⟨f0, f1, f2, f3, f4, f5⟩ := hf it (by simp)
    exact wpAny_pyNext_ascii_end (I.ok.hd hc) st (by simp [hg]) fun h' eb => ⟨rfl, I.turned (t' := s.toks) (fun b o hb e => eb b o hb e) f0 f1 f3 f4 f5⟩
  self := fun _ _ _ _ _ st h => wpAny_pyIter_striter_ascii st h
theorem turn_strW {P : Program} {w : World} {K : PySem.W.Frag} (x : Str) (t : Tok) (it : Addr) : Turn P w K tg (Its x) [it] it (fun i h => h.IsStrIter it "str_iterator" x t i) where
  mem := by simp
  obj := fun i h st b hb => by
    have e : b = it := by simpa using hb
    subst e
    obtain ⟨o, e, _, d⟩ := st
    exact ⟨o, e, fun v z => by rw [d] at z; cases z⟩
  keep := fun i h h' st k => by
    obtain ⟨o, e, r⟩ := st
    exact ⟨o, k it (by simp) o e, r⟩
  item := by
    intro X hP hw hK hc i pins s σ H E I hf st hg
    subst hP hw hK
    have hg : i < x.cps.size := hg
    obtain ⟨f0, f1, f2, f3, f4, f5⟩ := hf it (by simp)
    refine wpAny_pyNext_wide_item st (c := x.cps[i]) (by simp [hg]) fun h' st' sb => ?_
    have I1 : Inv X pins σ H { s with heap := h', toks := s.toks + 1 } := I.turned (fun b o hb e => (sb.2 b hb).trans e) f0 f1 f3 f4 f5
    obtain ⟨o, e, c, d⟩ := id st'
    exact ⟨_, rfl, go_of (s := { s with heap := h', toks := s.toks + 1 }) e c d (by decide) ⟨.str _, H, I1, ⟨_, rfl⟩, ⟨rfl, _, by simp [co, hg], rfl⟩, st', fun b hb => (hf b hb).1⟩⟩
  done := by
    intro X hP hw hK hc i pins s σ H E I hf st hg
    subst hP hw hK
    have hg : x.cps.size ≤ i := hg
    obtain ⟨f0, f1, f2, f3, f4, f5⟩ := hf it (by simp)
    exact wpAny_pyNext_wide_end (I.ok.hd hc) st (by simp [hg]) fun h' eb => ⟨rfl, I.turned (t' := s.toks) (fun b o hb e => eb b o hb e) f0 f1 f3 f4 f5⟩
  self := fun _ _ _ _ _ st h => wpAny_pyIter_striter_wide st h
def iStr (tl : TE) : TI := fun σ H R => tl σ H fun x H1 => match x with
  | .str z => R (Its z) H1
  | _ => False
theorem pi_str {l : Expr} {tl : TE} (hl : PE X l tl) : PI X tg l (iStr tl) := by
  intro pins s σ H R I h
  refine thn (hl pins s σ H _ I h) fun v s1 ⟨x, H1, I1, r1, q1⟩ => ?_
  cases x <;> first
    | exact False.elim q1
    | (rename_i z
       obtain ⟨t, rfl⟩ := r1
       have fp : ∀ (o : Obj), ∀ b ∈ [s1.heap.objs.size], FpOk X pins H1 b := fun o b hb => by
         have e : b = s1.heap.objs.size := by simpa using hb
         subst e
         exact I1.fpOk (Nat.le_refl _) (I1.hok.fresh (Nat.le_refl _))
       cases ha : z.cps.all (· < 128) with
       | true =>
         refine wpAny_pyIter_ascii ha ⟨s1.heap.objs.size, [s1.heap.objs.size], _, _, H1, rfl, I1.kept (t' := s1.toks) fun b o e => Heap.get?_push_of_some _ e, turn_strA z t _, ⟨_, Heap.get?_push_size _ rfl, rfl, rfl⟩, fp default, q1⟩
       | false =>
         refine wpAny_pyIter_wide ha ⟨s1.heap.objs.size, [s1.heap.objs.size], _, _, H1, rfl, I1.kept (t' := s1.toks) fun b o e => Heap.get?_push_of_some _ e, turn_strW z t _, ⟨_, Heap.get?_push_size _ rfl, rfl, rfl⟩, fp default, q1⟩)
theorem comp_str {x : Str} {g : TG} {te : TE} {k : Nat} {js : List Nat} {σ : L2.St} {H1 : Hp} {Q : VK} (f : Nat → V) (hz : x.length ≤ 1000)
    (hs : ∀ c H2, c ∈ co x → Same H1 H2 → ∀ P : VK, P (f c) H2 → g (.str ⟨#[c]⟩) (List.replicate k none ++ capσ js σ) H2 fun σ2 H3 => σ2.drop k = capσ js σ ∧ te σ2 H3 P)
    (hq : ∀ D H', Same H1 H' → H' D = some (.lst ((co x).map f)) → Q (.ref D) H') :
    CGoal (Its x) g te k js σ H1 Q := by
  unfold CGoal
  intro D hD
  have hl := co_len x
  refine ⟨fun i m H => m = x.length - i ∧ i ≤ x.length ∧ H = upd H1 D (.lst (((co x).take i).map f)), ⟨x.length, by simp, Nat.zero_le _, rfl⟩, ?_⟩
  rintro i m H ⟨rfl, hi, rfl⟩
  by_cases hlt : i < x.length
  · refine .inr ⟨hlt, fun v H' y => ?_⟩
    obtain ⟨e1, c, hc, rfl⟩ := y
    subst e1
    refine hs c _ (List.mem_of_getElem? hc) (same_upd hD) _ ⟨_, upd_same, ?_, x.length - (i + 1), by omega, rfl, hlt, ?_⟩
    · rw [List.length_map, List.length_take]
      exact Nat.lt_of_le_of_lt (Nat.min_le_left _ _) (Nat.lt_of_lt_of_le hlt (Nat.le_trans hz (by decide)))
    · rw [upd_upd, List.take_add_one, hc, List.map_append]
      rfl
  · have e : i = x.length := by omega
    subst e
    refine .inl ⟨Nat.le_refl _, hq D _ (same_upd hD) ?_⟩
    rw [upd_same, List.take_of_length_le (by omega)]
def dStrI : List V → Hp → VK → Prop := fun xs H Q => match xs with
  | [.int i] => i.natAbs.log2 < 1920 ∧ Q (.str (toString i)) H
  | _ => False
def dAll (K : PySem.W.Frag) : List V → Hp → VK → Prop := fun xs H Q => match xs with
  | [.ref p] => ∃ bs : List Bool, SqL K H p (bs.map V.bl) ∧ Q (.bl (bs.all id)) H
  | _ => False
theorem vals_bls : ∀ {bs : List Bool} {us : List Value}, Vals (bs.map V.bl) us → us = bs.map Value.bool
  | [], _, r => by cases r; rfl
  | d :: ds, _, r => by
    cases r with
    | cons r1 r2 => rw [show _ = Value.bool d from r1, vals_bls r2]; rfl
theorem range_all : ∀ bs : List Bool, ((List.range bs.length).all fun i => bs.getD i true) = bs.all id := by
  intro bs
  rw [Bool.eq_iff_iff, List.all_eq_true, List.all_eq_true]
  constructor
  · intro h b hb
    obtain ⟨i, hi, rfl⟩ := List.getElem_of_mem hb
    have := h i (List.mem_range.mpr hi)
    rw [List.getD_eq_getElem?_getD, List.getElem?_eq_getElem hi] at this
    exact this
  · intro h i hi
    have hi := List.mem_range.mp hi
    rw [List.getD_eq_getElem?_getD, List.getElem?_eq_getElem hi]
    exact h _ (List.getElem_mem hi)
theorem c_all (hc : X.calm = true) : CallR X (.builtin "all") (dAll X.K) := by
  intro pins s σ H xs us Q I r h
  match xs, h with
  | [.ref p], ⟨bs, h1, q⟩ =>
    obtain ⟨u, rfl, r1⟩ := vals1 r
    cases (show u = Value.ref p from r1)
    obtain ⟨its, rv, pl, _⟩ := I.list h1
    have e := vals_bls rv
    subst e
    have hh := I.ok.hd hc
    have il := pl.isList
    obtain ⟨ob, eb, rb⟩ := id il
    have ne : p ≠ s.heap.objs.size := Nat.ne_of_lt (Heap.lt_size eb)
    refine call_all_walk (wpAny_pyIter_list il ?_)
    refine ⟨s.heap.objs.size, _, _, _, _, _, fun i => bs.getD i true, rfl, Walks.list (A := X.A.in1) hh s.heap.objs.size p ne (bs.map Value.bool).toArray, ⟨⟨_, Heap.get?_push_size _ rfl, rfl, rfl⟩, ⟨ob, Heap.get?_push_of_some _ eb, rb⟩⟩, fun i v s2 Q2 E2 hP hQ => ?_, fun h' tk k => ?_⟩
    · have hP : (bs.map Value.bool).toArray[i]? = some v := hP
      rw [List.getElem?_toArray, List.getElem?_map] at hP
      cases e2 : bs[i]? with
      | none =>
        rw [e2] at hP
        cases hP
      | some d =>
        rw [e2] at hP
        cases hP
        refine wpAny_truthy_bool ?_
        have : bs.getD i true = d := by rw [List.getD_eq_getElem?_getD, e2]; rfl
        rw [← this]
        exact hQ
    · refine ⟨.bl (bs.all id), H, I.kept (t' := tk) fun b o e => k b o ?_ (Heap.get?_push_of_some _ e), ?_, q⟩
      · intro z
        have z : b = s.heap.objs.size := by simpa using z
        exact Nat.lt_irrefl _ (z ▸ Heap.lt_size e)
      · show Value.bool _ = Value.bool _
        rw [List.size_toArray, List.length_map, range_all]
end
end Lw
end
set_option linter.all false
namespace Lw
open L2
def rq (t b : Int) : Rat := (t : Rat) / (b : Rat)
theorem ic_pos {b : Int} (h : 0 < b) : (0 : Rat) < (b : Rat) := Rat.intCast_pos.mpr h
theorem rq_mul {t b : Int} (h : 0 < b) : rq t b * (b : Rat) = (t : Rat) := by
  have := ic_pos h
  unfold rq
  grind
theorem rq_eq {t b t' b' : Int} (h : 0 < b) (h' : 0 < b') : rq t b = rq t' b' ↔ t * b' = t' * b := by
  have e1 := rq_mul (t := t) h
  have e2 := rq_mul (t := t') h'
  have p1 := ic_pos h
  have p2 := ic_pos h'
  constructor
  · intro e
    have : ((t * b' : Int) : Rat) = ((t' * b : Int) : Rat) := by
      rw [Rat.intCast_mul, Rat.intCast_mul, ← e1, ← e2, e]
      grind
    exact Rat.intCast_inj.mp this
  · intro e
    have e : ((t * b' : Int) : Rat) = ((t' * b : Int) : Rat) := congrArg _ e
    rw [Rat.intCast_mul, Rat.intCast_mul, ← e1, ← e2] at e
    generalize rq t b = u at *
    generalize rq t' b' = v at *
    have hc := Rat.mul_pos p1 p2
    have : (u - v) * ((b : Rat) * (b' : Rat)) = 0 := by grind
    generalize (b : Rat) * (b' : Rat) = c at *
    clear e e1 e2 p1 p2
    have z : (u - v) * c * c⁻¹ = 0 := by rw [this]; grind
    rw [Rat.mul_assoc, Rat.mul_inv_cancel c (by grind)] at z
    grind
theorem rq_low {t b : Int} (hb : 0 < b) : rq (lowT t b) (lowB t b) = rq t b := by
  rw [rq_eq (lowB_pos t hb) hb]
  have m1 := lowT_mul t b
  have m2 := lowB_mul t b
  generalize lowT t b = u at *
  generalize lowB t b = w at *
  generalize (Int.gcd t b : Int) = g at *
  subst m1 m2
  grind
theorem rq_add {t b u c : Int} (hb : 0 < b) (hc : 0 < c) : rq (t * c + u * b) (b * c) = rq t b + rq u c := by
  have p1 := ic_pos hb
  have p2 := ic_pos hc
  unfold rq
  rw [Rat.intCast_add, Rat.intCast_mul, Rat.intCast_mul, Rat.intCast_mul]
  generalize (t : Rat) = t at *
  generalize (u : Rat) = u at *
  generalize (b : Rat) = b at *
  generalize (c : Rat) = c at *
  grind
def shr (a b e : Rat) : Rat := a * e / (a * e + b)
theorem dv_pos {a b : Rat} (ha : 0 < a) (hb : 0 < b) : 0 < a / b := by
  rw [Rat.lt_div_iff hb]
  grind
end Lw
section
set_option Elab.async false
set_option linter.all false
set_option maxRecDepth 100000
set_option maxHeartbeats 4000000
set_option autoImplicit false
namespace Lw
open PySem PySem.Spec PyProof.Rows L2
section
variable {X : Cx} {pos : Pos}
def upS (x : Str) : Str := ⟨x.cps.map up1⟩
def dUpper : V → List V → Hp → VK → Prop := fun x xs H Q => match x, xs with
  | .str z, [] => z.length ≤ 1000 ∧ (∀ c ∈ co z, c < 128) ∧ Q (.str (upS z)) H
  | _, _ => False
def dListN (K : PySem.W.Frag) : List V → Hp → VK → Prop := fun xs H Q => match xs with
  | [.ref p] => ∃ ys, (SqL K H p ys ∨ SqT K H p ys) ∧ ∀ l, H l = none → Q (.ref l) (upd H l (.lst ys))
  | _ => False
end
end Lw
end
section
set_option Elab.async false
set_option linter.all false
set_option maxRecDepth 100000
set_option maxHeartbeats 4000000
set_option autoImplicit false
namespace Lw
open PySem PySem.Spec PyProof.Rows L2
section
variable {X : Cx} {pos : Pos}
structure TupD (K : PySem.W.Frag) (a : Addr) (xs : List V) : Prop where
  sq : ∀ H, SqT K H a xs
  ty : ∃ o, K.lookup a = some o ∧ o.cls = .type "tuple" ∧ o.dict = none
def dNotInS (K : PySem.W.Frag) : R2 := fun x y H Q => match y with
  | .ref p => ∃ xs, (SqL K H p xs ∨ SqT K H p xs) ∧ flatV x = true ∧ xs.all flatV = true ∧ Q (.bl (!inV x xs)) H
  | _ => False
theorem o_notin : OpR X (compareOp .NotIn) (dNotInS X.K) := by
  intro pins s σ H x y v u Q I rx ry q
  cases y <;> first
    | exact False.elim q
    | (obtain ⟨xs, h1, h2, h3, q⟩ := q
       exact op_notIn_seq _ _ _ _ _ _ _ _ _ I rx ry ⟨_, xs, rfl, h1, h2, h3, q⟩)
def dIntS : List V → Hp → VK → Prop := fun xs H Q => match xs with
  | [.str x] => ∃ n, PySem.intText? x = some n ∧ x.length ≤ 640 ∧ Q (.int n) H
  | _ => False
def dEnds : V → List V → Hp → VK → Prop := fun x xs H Q => match x, xs with
  | .str x, [.str y] => Q (.bl (Txt.endswith x y)) H
  | _, _ => False
def dSplit : V → List V → Hp → VK → Prop := fun x xs H Q => match x, xs with
  | .str x, [.str y] => (y.length == 0) = false ∧ x.length ≤ 1000 ∧ ∀ l H', Same H H' → H' l = some (.lst ((Txt.split x y).map V.str)) → Q (.ref l) H'
  | _, _ => False
def PJ (X : Cx) (es : List Expr) (t : Str → L2.St → Hp → VK → Prop) : Prop := ∀ (pins : List (Addr × Obj)) (s : Shared) (σ : L2.St) (H : Hp) (acc : Str) (Q : VK), Inv X pins σ H s → t acc σ H Q → wpAny (model X.prog X.w) X.A (joinParts acc (evalEach es X.env)) (EP X pins σ Q) X.xe s
def tJ0 : Str → L2.St → Hp → VK → Prop := fun acc _ H Q => acc.length ≤ sizeLine ∧ Q (.str acc) H
def tJS (y : Str) (t : Str → L2.St → Hp → VK → Prop) : Str → L2.St → Hp → VK → Prop := fun acc σ H Q => (acc ++ y).length ≤ sizeLine ∧ t (acc ++ y) σ H Q
def tJV (te : TE) (t : Str → L2.St → Hp → VK → Prop) : Str → L2.St → Hp → VK → Prop := fun acc σ H Q => te σ H fun x H1 => match x with
  | .str y => y.length ≤ sizeLine ∧ (acc ++ y).length ≤ sizeLine ∧ t (acc ++ y) σ H1 Q
  | .int i => i.natAbs.log2 < 1920 ∧ (acc ++ (toString i : Str)).length ≤ sizeLine ∧ t (acc ++ (toString i : Str)) σ H1 Q
  | _ => False
def dFS (t : Str → L2.St → Hp → VK → Prop) : TE := fun σ H Q => t Str.empty σ H Q
end
section
open PySem.AutoSeq1 (wpAny_loadPart')
open PySem.MeetsSeq PySem.MeetsSeq2 PySem.MeetsSeq3 PySem.SeqRoads2 PySem.SeqAt
section
variable {X : Cx} {pos : Pos}
def dTIx (K : PySem.W.Frag) : V → List V → Hp → VK → Prop := fun x xs H Q => match x, xs with
  | .ref p, [v] => ∃ (ys : List V) (j : Nat) (y : V), SqT K H p ys ∧ flatV v = true ∧ ys.all flatV = true ∧ ys[j]? = some y ∧ eqV y v = true ∧ (∀ m z, m < j → ys[m]? = some z → eqV z v = false) ∧ Q (.int (j : Int)) H
  | _, _ => False
end
end
def fg (m : Nat) : List Nat := co (Str.ofString (toString ((m : Nat) : Int)))
end Lw
end
section
set_option Elab.async false
set_option linter.all false
set_option maxRecDepth 100000
set_option maxHeartbeats 4000000
set_option autoImplicit false
namespace Lw
open PySem PySem.Spec PyProof.Rows L2
section
variable {X : Cx} {pos p2 p3 p4 : Pos}
def dIntB : List V → Hp → VK → Prop := fun xs H Q => match xs with
  | [.bl b] => Q (.int (if b then 1 else 0)) H
  | _ => False
def dRevS (te : TE) : TE := fun σ H Q => te σ H fun x H1 => match x with
  | .str z => z.length ≤ sizeLine ∧ ∀ z' : Str, z'.length ≤ z.length → Q (.str z') H1
  | _ => False
def dRepl (K : PySem.W.Frag) (tw : TE) (i : Int) (y z : Str) : TE := fun σ H Q => tw σ H fun w H1 => match w with
  | .ref p => ∃ (xs : List V) (x : Str), SqL K H1 p xs ∧ atI xs i = some (.str x) ∧ x.length ≤ 1000 ∧ Q (.str (Txt.replace x y z)) H1
  | _ => False
end
end Lw
end
section
set_option Elab.async false
set_option linter.all false
set_option maxRecDepth 100000
set_option maxHeartbeats 4000000
namespace Lw
open PySem PySem.Spec PyProof.Rows L2
section
variable {X : Cx}
def tCutE (t u : TS) : TS := fun D σ H => ∃ R : L2.St → Hp → Prop, t { D with nx := R } σ H ∧ ∀ σ' H', R σ' H' → u D σ' H'
theorem ss_cutE {st : Stmt} {r : List Stmt} {t u : TS} (h1 : PS X st t) (h2 : PSs X r u) : PSs X (st :: r) (tCutE t u) := by
  intro pins s σ H D I h
  obtain ⟨R, h⟩ := h
  exact ss_cut R h1 h2 pins s σ H D I h
end
end Lw
end
section
set_option Elab.async false
set_option linter.all false
set_option maxRecDepth 100000
set_option maxHeartbeats 4000000
namespace Lw
open PySem PySem.Spec PyProof.Rows L2
def dd (l : List Str) (x : Str) : List Str := if x ∈ l then l else l ++ [x]
def lS (a b : Str) : Prop := a.cps.toList < b.cps.toList
instance : DecidableRel lS := fun a b => inferInstanceAs (Decidable (a.cps.toList < b.cps.toList))
theorem lS_irr (a : Str) : ¬ lS a a := List.lt_irrefl _
theorem lS_tr {a b c : Str} (h : lS a b) (h' : lS b c) : lS a c := List.lt_trans h h'
theorem lS_tri {a b : Str} (h : ¬ lS a b) (h' : ¬ lS b a) : a = b := by
  have e := List.le_antisymm (List.not_lt.mp h') (List.not_lt.mp h)
  cases a; cases b
  simpa using Array.toList_inj.mp e
theorem lS_as {a b : Str} (h : lS a b) : ¬ lS b a := List.lt_asymm h
abbrev Inc (l : List Str) : Prop := l.Pairwise lS
theorem inc_ext : ∀ {l m : List Str}, Inc l → Inc m → (∀ x, x ∈ l ↔ x ∈ m) → l = m
  | [], [], _, _, _ => rfl
  | [], b :: m, _, _, h => absurd ((h b).mpr (List.mem_cons_self ..)) (by simp)
  | a :: l, [], _, _, h => absurd ((h a).mp (List.mem_cons_self ..)) (by simp)
  | a :: l, b :: m, h1, h2, h => by
    have ⟨a1, a2⟩ := List.pairwise_cons.mp h1
    have ⟨b1, b2⟩ := List.pairwise_cons.mp h2
    have e : a = b := by
      rcases List.mem_cons.mp ((h a).mp (List.mem_cons_self ..)) with e | e
      · exact e
      · rcases List.mem_cons.mp ((h b).mpr (List.mem_cons_self ..)) with f | f
        · exact f.symm
        · exact absurd (b1 a e) (lS_as (a1 b f))
    subst e
    rw [inc_ext a2 b2 fun x => ⟨fun hx => ?_, fun hx => ?_⟩]
    · rcases List.mem_cons.mp ((h x).mp (List.mem_cons_of_mem _ hx)) with e | e
      · subst e
        exact absurd (a1 x hx) (lS_irr x)
      · exact e
    · rcases List.mem_cons.mp ((h x).mpr (List.mem_cons_of_mem _ hx)) with e | e
      · subst e
        exact absurd (b1 x hx) (lS_irr x)
      · exact e
def insS (x : Str) : List Str → List Str
  | [] => [x]
  | y :: l => if lS x y then x :: y :: l else if lS y x then y :: insS x l else y :: l
theorem mem_insS {x z : Str} : ∀ {l : List Str}, z ∈ insS x l ↔ z = x ∨ z ∈ l
  | [] => by simp [insS]
  | y :: l => by
    unfold insS
    split
    · simp
    · split
      · simp only [List.mem_cons, mem_insS (l := l)]
        constructor
        · rintro (h | h | h)
          · exact .inr (.inl h)
          · exact .inl h
          · exact .inr (.inr h)
        · rintro (h | h | h)
          · exact .inr (.inl h)
          · exact .inl h
          · exact .inr (.inr h)
      · rename_i h1 h2
        have e := lS_tri h1 h2
        subst e
        simp
theorem inc_insS {x : Str} : ∀ {l : List Str}, Inc l → Inc (insS x l)
  | [], _ => List.pairwise_singleton ..
  | y :: l, h => by
    have ⟨h1, h2⟩ := List.pairwise_cons.mp h
    unfold insS
    split
    · rename_i c
      exact List.pairwise_cons.mpr ⟨fun z hz => (List.mem_cons.mp hz).elim (fun e => e ▸ c) (fun e => lS_tr c (h1 z e)), h⟩
    · split
      · rename_i c
        exact List.pairwise_cons.mpr ⟨fun z hz => (mem_insS.mp hz).elim (fun e => e ▸ c) (h1 z), inc_insS h2⟩
      · exact h
def srt (l : List Str) : List Str := l.foldr insS []
theorem inc_srt : ∀ (l : List Str), Inc (srt l)
  | [] => List.Pairwise.nil
  | x :: l => inc_insS (inc_srt l)
theorem mem_srt {x : Str} : ∀ {l : List Str}, x ∈ srt l ↔ x ∈ l
  | [] => Iff.rfl
  | y :: l => by
    show x ∈ insS y (srt l) ↔ _
    rw [mem_insS, mem_srt (l := l), List.mem_cons]
def ddn (val : Nat → Str) (i : Nat) : List Str := ((List.range i).map val).foldl dd []
theorem pairwise_inc {l : List Str} (h : l.Pairwise fun a b => ¬ lS b a) (n : l.Nodup) : Inc l := by
  induction l with
  | nil => exact List.Pairwise.nil
  | cons a l ih =>
    have ⟨h1, h2⟩ := List.pairwise_cons.mp h
    have ⟨n1, n2⟩ := List.nodup_cons.mp n
    refine List.pairwise_cons.mpr ⟨fun b hb => ?_, ih h2 n2⟩
    refine Decidable.byContradiction fun c => n1 ?_
    have e := lS_tri c (h1 b hb)
    exact e ▸ hb
theorem nd_len {α : Type} [DecidableEq α] : ∀ {l m : List α}, l.Nodup → (∀ x ∈ l, x ∈ m) → l.length ≤ m.length
  | [], m, _, _ => Nat.zero_le _
  | a :: l, m, n, h => by
    have ⟨n1, n2⟩ := List.nodup_cons.mp n
    have ha : a ∈ m := h a (List.mem_cons_self ..)
    have := nd_len (l := l) (m := m.erase a) n2 fun x hx => (List.mem_erase_of_ne (fun e : x = a => n1 (e ▸ hx))).mpr (h x (List.mem_cons_of_mem _ hx))
    rw [List.length_erase_of_mem ha] at this
    have : 0 < m.length := List.length_pos_of_mem ha
    rw [List.length_cons]
    omega
theorem inc_nodup {l : List Str} (h : Inc l) : l.Nodup := List.Pairwise.imp (S := fun a b => a ≠ b) (fun {a b} (h : lS a b) (e : a = b) => lS_irr a (e ▸ h)) h
end Lw
end
section
set_option Elab.async false
set_option linter.all false
set_option maxRecDepth 100000
set_option maxHeartbeats 4000000
namespace Lw
open PySem PySem.Spec PyProof.Rows L2
def byTx (w : World) : Bool := w.params.followText "set-order"
def tx (e : Int × Value) : Str := strOf e.2
structure SetO (prog : Program) (w : World) (o : Obj) (ss : List Str) (es : Array (Int × Value)) (ep : Nat) (t : SetTable) : Prop where
  ex : o.ExactSet
  dat : o.data = .set es ep t
  el : ElemsOf (PySem.strKind prog w) es.toList
  pm : (es.toList.map tx).Perm ss
  fit : t.fits es.size = true
  bd : es.size < scanBound
  led : t.led = !byTx w
  pl : 0 < es.size → t.plain = false
def SetS (prog : Program) (w : World) (h : Heap) (a : Addr) (ss : List Str) : Prop := ∃ o es ep t, h.get? a = some o ∧ SetO prog w o ss es ep t
section
variable {prog : Program} {w : World} {A : Around} {E : Value → Shared → Prop} {s : Shared}
def fsO (w : World) : Obj := { cls := .type "set", dict := none, data := .set #[] 0 (.fresh 0 0 (!byTx w)) }
end
end Lw
end
section
set_option Elab.async false
set_option linter.all false
set_option maxRecDepth 100000
set_option maxHeartbeats 4000000
namespace Lw
open PySem PySem.Spec PyProof.Rows L2
def SI (h : Heap) (I : Addr) (f : Value) (i : Nat) (a : Addr) (n ep : Nat) : Prop := ∃ o, h.get? I = some o ∧ o.cls = .type "set_iterator" ∧ o.data = .fields #[f, .int i 0, .ref a, .int n 0, .int ep 0]
section
variable {prog : Program} {w : World} {A : Around} {E : Value → Shared → Prop} {s : Shared}
theorem rising_le : ∀ {l : List Str} {p : Str}, risingS p l = true → (∀ y ∈ l, ¬ lS y p) ∧ l.Pairwise fun a b => ¬ lS b a
  | [], _, _ => ⟨fun _ h => absurd h (by simp), List.Pairwise.nil⟩
  | x :: r, p, h => by
    have h' : (!ltCps x.cps.toList p.cps.toList && risingS x r) = true := h
    rw [Bool.and_eq_true, Bool.not_eq_true', ltCps_eq] at h'
    obtain ⟨h1, h2⟩ := h'
    have n1 : ¬ lS x p := of_decide_eq_false h1
    obtain ⟨i1, i2⟩ := rising_le h2
    refine ⟨fun y hy => ?_, List.pairwise_cons.mpr ⟨i1, i2⟩⟩
    rcases List.mem_cons.mp hy with rfl | hy
    · exact n1
    · intro c
      exact i1 y hy (Decidable.byContradiction fun d => n1 (Decidable.byContradiction fun n1' => by
        by_cases e : lS p x
        · exact d (lS_tr c e)
        · have e2 := lS_tri n1' e
          subst e2
          exact d c))
theorem sorted_le {l : List Str} (h : sortedS l = true) : l.Pairwise fun a b => ¬ lS b a := by
  cases l with
  | nil => exact List.Pairwise.nil
  | cons x r =>
    obtain ⟨h1, h2⟩ := rising_le (p := x) (l := r) h
    exact List.pairwise_cons.mpr ⟨h1, h2⟩
end
section
variable {X : Cx}
theorem vals_str : ∀ {us : List Value} {ys : List Str}, StrsAre us ys → Vals (ys.map V.str) us
  | _, _, .nil => .nil
  | _, _, .cons x t r => .cons ⟨t, rfl⟩ (vals_str r)
def dSSet (K : PySem.W.Frag) (te : TE) : TE := fun σ H Q => te σ H fun x H1 => match x with
  | .ref l => ∃ names : List Str, SqL K H1 l (names.map V.str) ∧ names.length ≤ 1000 ∧ (srt names).length < 64 ∧ ∀ D, H1 D = none → Q (.ref D) (upd H1 D (.lst ((srt names).map V.str)))
  | _ => False
end
end Lw
end
section
set_option Elab.async false
set_option linter.all false
set_option maxRecDepth 100000
set_option maxHeartbeats 4000000
namespace Lw
open PySem PySem.Spec PyProof.Rows L2
section
variable {prog : Program} {w : World} {A : Around} {R : Result → Shared → Prop} {s : Shared}
end
@[irreducible] def CGoalI (J : It) (g : TG) (tc : TT) (te : TE) (k : Nat) (js : List Nat) (σ : L2.St) (H1 : Hp) (Q : VK) : Prop := ∀ D, H1 D = none → ∃ W : Nat → Nat → Hp → Prop, (∃ m, W 0 m (upd H1 D (.lst []))) ∧ ∀ i m H, W i m H →
  (J.stop i H ∧ Q (.ref D) H) ∨ (J.go i H ∧ ∀ x H', J.yld i H x H' → g x (List.replicate k none ++ capσ js σ) H' fun σ2 H2 => σ2.drop k = capσ js σ ∧ tc σ2 H2 fun b H3 => Br b (te σ2 H3 fun v H4 => ∃ xs, H4 D = some (.lst xs) ∧ xs.length < sizeLine ∧ ∃ m', m' < m ∧ W (i + 1) m' (upd H4 D (.lst (xs ++ [v])))) (∃ m', m' < m ∧ W (i + 1) m' H3))
def dCompI (wi : TI) (g : TG) (tc : TT) (te : TE) (k : Nat) (js : List Nat) : TE := fun σ H Q => wi σ H fun J H1 => CGoalI J g tc te k js σ H1 Q
section
variable {X : Cx}
end
end Lw
end
section
set_option Elab.async false
set_option linter.all false
set_option maxRecDepth 100000
set_option maxHeartbeats 4000000
namespace Lw
open PySem PySem.Spec PyProof.Rows L2
inductive All2 {α β : Type} (R : α → β → Prop) : List α → List β → Prop where
  | nil : All2 R [] []
  | cons {a : α} {b : β} {l : List α} {m : List β} : R a b → All2 R l m → All2 R (a :: l) (b :: m)
theorem All2.len {α β : Type} {R : α → β → Prop} : ∀ {l : List α} {m : List β}, All2 R l m → l.length = m.length
  | _, _, .nil => rfl
  | _, _, .cons _ r => by rw [List.length_cons, List.length_cons, r.len]
theorem All2.imp {α β : Type} {R S : α → β → Prop} (h : ∀ a b, R a b → S a b) : ∀ {l : List α} {m : List β}, All2 R l m → All2 S l m
  | _, _, .nil => .nil
  | _, _, .cons x r => .cons (h _ _ x) (r.imp h)
theorem All2.snoc {α β : Type} {R : α → β → Prop} {a : α} {b : β} (x : R a b) : ∀ {l : List α} {m : List β}, All2 R l m → All2 R (l ++ [a]) (m ++ [b])
  | _, _, .nil => .cons x .nil
  | _, _, .cons y r => .cons y (r.snoc x)
theorem All2.get {α β : Type} {R : α → β → Prop} : ∀ {l : List α} {m : List β}, All2 R l m → ∀ {i : Nat} {a : α}, l[i]? = some a → ∃ b, m[i]? = some b ∧ R a b
  | _, _, .nil, i, a, h => by simp at h
  | _, _, .cons x r, 0, a, h => by
    simp at h
    subst h
    exact ⟨_, rfl, x⟩
  | _, _, .cons x r, i + 1, a, h => by
    simp only [List.getElem?_cons_succ] at h ⊢
    exact r.get h
theorem All2.app {α β : Type} {R : α → β → Prop} : ∀ {l l' : List α} {m m' : List β}, All2 R l m → All2 R l' m' → All2 R (l ++ l') (m ++ m')
  | _, _, _, _, .nil, h => h
  | _, _, _, _, .cons x r, h => .cons x (r.app h)
def Kt (H H' : Hp) : Prop := ∀ p xs, H p = some (.tup xs) → H' p = some (.tup xs)
theorem Kt.trans {H H1 H2 : Hp} (a : Kt H H1) (b : Kt H1 H2) : Kt H H2 := fun p xs h => b p xs (a p xs h)
theorem kt_of {H H' : Hp} (s : Same H H') : Kt H H' := fun p xs h => s p _ h
theorem kt_upd {H : Hp} {D : Addr} {zs : List V} {o : HO} (h : H D = some (.lst zs)) : Kt H (upd H D o) := fun p xs e => by
  have ne : p ≠ D := fun z => by
    subst z
    rw [h] at e
    cases e
  rw [upd_ne ne]
  exact e
theorem same_app' {H0 H : Hp} {D : Addr} {o : HO} (s : Same H0 H) (h : H0 D = none) : Same H0 (upd H D o) := fun b u e => by
  rw [upd_ne (ne_of_none e h)]
  exact s b u e
theorem comp_abs {β : Type} {K : PySem.W.Frag} {a : Addr} {xs : List V} {ms : List β} {g : TG} {te : TE} {k : Nat} {js : List Nat} {σ : L2.St} {H1 : Hp} {Q : VK} (M : Hp → V → β → Prop) (upM : ∀ v m H H', Kt H H' → M H v m → M H' v m) (R : Hp → β → V → Prop) (up : ∀ m y H H', Kt H H' → R H m y → R H' m y)
    (hz : xs.length ≤ 1000) (hx : SqL K H1 a xs) (hm : All2 (M H1) xs ms)
    (hs : ∀ v m H2, M H2 v m → m ∈ ms → Same H1 H2 → ∀ P : VK, (∀ y H3, Same H2 H3 → R H3 m y → P y H3) → g v (List.replicate k none ++ capσ js σ) H2 fun σ2 H3 => σ2.drop k = capσ js σ ∧ te σ2 H3 P)
    (hq : ∀ D H' ys, Same H1 H' → H1 D = none → H' D = some (.lst ys) → All2 (R H') ms ys → Q (.ref D) H') : CGoal (Itl K a) g te k js σ H1 Q := by
  unfold CGoal
  intro D hD
  have hl := hm.len
  refine ⟨fun i m H => m = xs.length - i ∧ i ≤ xs.length ∧ Same H1 H ∧ ∃ ys, H D = some (.lst ys) ∧ All2 (R H) (ms.take i) ys, ⟨xs.length, by simp, Nat.zero_le _, same_upd hD, [], upd_same, .nil⟩, ?_⟩
  rintro i m H ⟨rfl, hi, sm, ys, hH, ar⟩
  have sq := sm.seq hx
  by_cases hlt : i < xs.length
  · have e : xs[i]? = some xs[i] := by simp [hlt]
    refine .inr ⟨⟨xs, _, sq, e⟩, fun x H' y => ?_⟩
    obtain ⟨e1, e2⟩ := y
    subst e1
    have hv := e2 xs sq
    obtain ⟨m, hmi, hM⟩ := hm.get hv
    refine hs x m _ (upM _ _ _ _ (kt_of sm) hM) (List.mem_of_getElem? hmi) sm _ fun y H3 s3 r3 => ⟨ys, s3 _ _ hH, ?_, xs.length - (i + 1), by omega, rfl, hlt, same_app' (sm.trans s3) hD, ys ++ [y], upd_same, ?_⟩
    · rw [← ar.len, List.length_take]
      exact Nat.lt_of_le_of_lt (Nat.min_le_left _ _) (Nat.lt_of_lt_of_le hlt (Nat.le_trans hz (by decide)))
    · have kt : Kt H3 (upd H3 D (.lst (ys ++ [y]))) := kt_upd (s3 _ _ hH)
      rw [List.take_add_one, hmi]
      exact (ar.imp fun v y r => up v y _ _ ((kt_of s3).trans kt) r).snoc (up _ _ _ _ kt r3)
  · have e : i = xs.length := by omega
    subst e
    rw [hl, List.take_length] at ar
    exact .inl ⟨⟨xs, sq, Nat.le_refl _⟩, hq D _ ys sm hD hH ar⟩
structure Gm where
  d : Int
  a : Str
  b : Str
  h : Int
  s : Int
def GmAt (H : Hp) (v : V) (g : Gm) : Prop := ∃ p, v = .ref p ∧ H p = some (.tup [.int g.d, .str g.a, .str g.b, .int g.h, .int g.s])
def Bk (K : PySem.W.Frag) (H : Hp) (L : Addr) (gs : List Gm) : Prop := ∃ vs, SqL K H L vs ∧ All2 (GmAt H) vs gs ∧ gs.length ≤ 100
def trn (g : Gm) : Gm := ⟨g.d, g.b, g.a, 2 - g.h, -g.s⟩
def plr (gs : List Gm) : List Str := srt (gs.map (·.a) ++ gs.map (·.b))
def isIn (n : Str) (g : Gm) : Bool := n == g.a || n == g.b
def toldG (n : Str) (g : Gm) : Gm := if g.a = n then g else trn g
def tld (n : Str) (gs : List Gm) : List Gm := (gs.filter (isIn n)).map (toldG n)
def tkr (n : Str) (gs : List Gm) : List Str := srt (((tld n gs).filter fun g => decide (g.h < 2)).map (·.b))
section
variable {X : Cx}
def dSlN (K : PySem.W.Frag) : V → Option Int → Option Int → Hp → VK → Prop := fun x lo hi H Q => match x with
  | .ref a => ∃ xs, SqL K H a xs ∧ ∀ p, H p = none → Q (.ref p) (upd H p (.lst (cutV xs lo hi)))
  | _ => False
def dSortL (K : PySem.W.Frag) : List V → Hp → VK → Prop := fun xs H Q => match xs with
  | [.ref l] => ∃ names : List Str, SqL K H l (names.map V.str) ∧ names.length < 64 ∧ names.Nodup ∧ ∀ D, H D = none → Q (.ref D) (upd H D (.lst ((srt names).map V.str)))
  | _ => False
end
def gd (g : Gm) : PyData := .tuple [.int g.d, .str g.a, .str g.b, .int g.h, .int g.s]
theorem cl_strs : ∀ {l : List Str}, (∀ x ∈ l, PyData.strOk x = true) → PyData.canLayAll0 (l.map PyData.str) = true
  | [], _ => rfl
  | x :: l, h => by
    show (PyData.strOk x && PyData.canLayAll0 (l.map PyData.str)) = true
    rw [h x (List.mem_cons_self ..), cl_strs fun y hy => h y (List.mem_cons_of_mem _ hy)]
    rfl
theorem dp_strs : ∀ (l : List Str), PyData.depthAll (l.map PyData.str) = 0
  | [] => rfl
  | x :: l => by
    show max 0 (PyData.depthAll (l.map PyData.str)) = 0
    rw [dp_strs l]
    rfl
theorem sh_strs {l : List Str} (h : ∀ x ∈ l, PyData.strOk x = true) : SeqAt.shaped (.list (l.map PyData.str)) = true := by
  unfold SeqAt.shaped
  rw [show (PyData.list (l.map PyData.str)).canLay0 = true from cl_strs h, show (PyData.list (l.map PyData.str)).depth = 0 + 1 from congrArg (· + 1) (dp_strs l)]
  rfl
theorem rpl_strs {K : PySem.W.Frag} {H : Hp} : ∀ (l : List Str), RpL K H (l.map V.str) (l.map PyData.str)
  | [] => .nil
  | x :: l => .cons (.str x) (rpl_strs l)
theorem rp_strs {K : PySem.W.Frag} {H : Hp} {p : Addr} {l : List Str} (h : SqL K H p (l.map V.str)) : Rp K H (.ref p) (.list (l.map PyData.str)) := .lst h (rpl_strs l)
theorem eqv_shaped {d : PyData} (h : SeqAt.shaped d = true) : PyData.eqv d d = true := SeqAt.eqv_refl d (SeqAt.canLay_of_shaped h)
end Lw
end
section
set_option Elab.async false
set_option linter.all false
set_option maxRecDepth 100000
set_option maxHeartbeats 4000000
namespace Lw
open PySem PySem.Spec PyProof.Rows L2
section
variable {X : Cx}
def dSum (K : PySem.W.Frag) : List V → Hp → VK → Prop := fun xs H Q => match xs with
  | [.ref l] => ∃ ns : List Int, SqL K H l (ns.map V.int) ∧ Q (.int ns.sum) H
  | _ => False
def dLstD : List V → Hp → VK → Prop := fun xs H Q => match xs with
  | [.ref d] => ∃ (kvs : List (Key × V)) (names : List Str), H d = some (.dK kvs) ∧ kvs.map (·.1) = names.map Sum.inr ∧ ∀ p, H p = none → Q (.ref p) (upd H p (.lst (names.map V.str)))
  | _ => False
end
end Lw
end
section
set_option Elab.async false
set_option linter.all false
set_option maxRecDepth 100000
set_option maxHeartbeats 4000000
namespace Lw
open PySem PySem.Spec PyProof.Rows L2
section
variable {X : Cx}
theorem inv_frz {pins : List (Addr × Obj)} {σ : L2.St} {H : Hp} {s : Shared} {a : Addr} {kvs : List (Key × V)} {o : Obj} (I : Inv X pins σ H s) (ha : H a = some (.dK kvs)) (ho : s.heap.get? a = some o) : Inv X pins σ (upd H a (.frz o (.dK kvs))) s := by
  have old : ∀ b u, H b = some u → b ≠ a → upd H a (.frz o (.dK kvs)) b = some u := fun b u e n => by rw [upd_ne n]; exact e
  refine I.step (g' := s.gens) (d' := s.drawn) (t' := s.toks) (h' := s.heap) (ch := []) (fun _ z => nomatch z) (fun b o _ _ _ e _ => e) (fun b o _ _ _ e _ => ⟨o.slots, e⟩) (fun b u _ e n => ?_) (fun b o _ e => ⟨o, e⟩) (fun b xs e => old b _ e ?_) (fun b ob u e => old b _ e ?_)
    (fun b ps e => ⟨#[], by rw [old b _ e (fun z => by rw [z, ha] at e; cases e)]; simp⟩) (fun m hm => hm) (fun b u e => ?_) I.bare
  · rw [upd_ne (fun z => by rw [z, ha] at n; cases n)]
    exact n
  · intro z
    rw [z, ha] at e
    cases e
  · intro z
    rw [z, ha] at e
    cases e
  · have ho' : ∀ b c, H b = some (.own c) → upd H a (.frz o (.dK kvs)) b = some (.own c) := fun b c e => old b _ e fun z => by rw [z, ha] at e; cases e
    have ht' : ∀ b xs, H b = some (.tup xs) → upd H a (.frz o (.dK kvs)) b = some (.tup xs) := fun b xs e => old b _ e fun z => by rw [z, ha] at e; cases e
    by_cases hb : b = a
    · subst hb
      rw [upd_same] at e
      cases e
      exact ⟨ho, (I.hok b _ ha).stay (fun c v _ q => q) (fun c q => ho' c _ q) ht'⟩
    · rw [upd_ne hb] at e
      exact (I.hok b u e).stay (fun c v _ q => q) (fun c q => ho' c _ q) ht'
def Itd (a : Addr) (o : Obj) (names : List Str) : It :=
  ⟨fun i H => (∃ kvs, H a = some (.frz o (.dK kvs)) ∧ kvs.map (·.1) = names.map Sum.inr) ∧ i < names.length,
   fun i H v H' => H' = H ∧ ∃ x, names[i]? = some x ∧ v = .str x,
   fun i H => (∃ kvs, H a = some (.frz o (.dK kvs)) ∧ kvs.map (·.1) = names.map Sum.inr) ∧ names.length ≤ i⟩
theorem turn_keys {P : Program} {w : World} {K : PySem.W.Frag} {tg : Expr} {it a : Addr} {o : Obj} {names : List Str} {es : Array DictEntry} {ep : Nat} (ho : o.data = .dict es ep) :
    Turn P w K tg (Itd a o names) [it] it (fun i h => h.IsKeyIter it a i names.length ep) where
  mem := by simp
  obj := fun i h Z c hc => by
    have hc : c = it := by simpa using hc
    subst hc
    obtain ⟨o, e, _, d⟩ := Z
    exact ⟨o, e, fun v z => by rw [d] at z; cases z⟩
  keep := fun i h h' Z k => by
    obtain ⟨o, e, r⟩ := Z
    exact ⟨o, k it (by simp) o e, r⟩
  item := by
    intro X hP hw hK hc i pins s σ H E I hf Z hg
    subst hP hw hK
    obtain ⟨⟨kvs, e, hk⟩, hi⟩ := hg
    obtain ⟨e0, z, lo, vs, rel, dd⟩ := (show ObjOk X.prog X.w H s.heap a (.frz o (.dK kvs)) from I.hok a _ e)
    have kk := rel.keys
    have kl := rel.length
    have nl : kvs.length = names.length := by
      have := congrArg List.length hk
      simpa using this
    obtain ⟨o', es', ep', r0, r1, r2, r3⟩ := dd
    rw [e0] at r0
    cases r0
    rw [ho] at r2
    cases r2
    have at' : s.heap.DictAt (mixKind X.prog X.w) a vs ep := ⟨o, es, e0, r1, ho, r3⟩
    have vl : vs.length = names.length := by omega
    have hx : vs[i]? = some (vs[i]'(by omega)) := List.getElem?_eq_getElem (by omega)
    generalize vs[i]'(by omega) = kv at hx
    obtain ⟨k, u⟩ := kv
    have h3 : (vs.map (·.1))[i]? = some k := by rw [List.getElem?_map, hx]; rfl
    rw [← kk, hk, List.getElem?_map] at h3
    have hn : names[i]? = some names[i] := List.getElem?_eq_getElem hi
    rw [hn] at h3
    cases h3
    have Z : s.heap.IsKeyIter it a i vs.length ep := by rw [vl]; exact Z
    refine wpAny_pyNext_dict_item Z at' hx fun key g hkey hit sb => ⟨_, rfl, ?_⟩
    refine letGo_keyiter (s' := { s with heap := g }) hit ?_
    have I1 : Inv X pins σ H { s with heap := g } := inv_moved I (t' := s.toks) (fp := [it]) (fun c o hc e => sb.extBut c o (fun x => hc (by simp [x])) e) hf
    rcases keyIs_shape (show keyIs (Sum.inr names[i]) key = true from hkey) with ⟨i', t, e1, _⟩ | ⟨y', t, e1, e2⟩
    · cases e1
    · cases e1
      refine ⟨.str names[i], H, I1, ⟨t, e2⟩, ⟨rfl, _, hn, rfl⟩, ?_, fun b hb => (hf b hb).1⟩
      rw [← vl]
      exact hit
  done := by
    intro X hP hw hK hc i pins s σ H E I hf Z hg
    subst hP hw hK
    obtain ⟨⟨kvs, e, hk⟩, hi⟩ := hg
    obtain ⟨e0, z, lo, vs, rel, dd⟩ := (show ObjOk X.prog X.w H s.heap a (.frz o (.dK kvs)) from I.hok a _ e)
    have kl := rel.length
    have nl : kvs.length = names.length := by
      have := congrArg List.length hk
      simpa using this
    obtain ⟨o', es', ep', r0, r1, r2, r3⟩ := dd
    rw [e0] at r0
    cases r0
    rw [ho] at r2
    cases r2
    have at' : s.heap.DictAt (mixKind X.prog X.w) a vs ep := ⟨o, es, e0, r1, ho, r3⟩
    have vl : vs.length = names.length := by omega
    have Z : s.heap.IsKeyIter it a i vs.length ep := by rw [vl]; exact Z
    refine wpAny_pyNext_dict_end (I.ok.hd hc) Z at' (List.getElem?_eq_none (by omega)) fun g kp => ⟨rfl, ?_⟩
    exact inv_moved I (t' := s.toks) (fp := [it]) (fun c o hc e => kp c o (fun x => hc (by simp [x])) e) hf
  self := fun _ _ _ _ _ Z h => wpAny_pyIter_keyiter Z h
def iKeys (te : TE) : TI := fun σ H R => te σ H fun x H1 => ∃ a kvs names, x = .ref a ∧ H1 a = some (.dK kvs) ∧ kvs.map (·.1) = names.map Sum.inr ∧ ∀ o, R (Itd a o names) (upd H1 a (.frz o (.dK kvs)))
theorem comp_keys {a : Addr} {o : Obj} {kvs : List (Key × V)} {names : List Str} {g : TG} {te : TE} {k : Nat} {js : List Nat} {σ : L2.St} {H1 : Hp} {Q : VK} (R : Hp → Str → V → Prop) (up : ∀ m y H H', Kt H H' → R H m y → R H' m y)
    (hz : names.length ≤ 1000) (hx : H1 a = some (.frz o (.dK kvs))) (hk : kvs.map (·.1) = names.map Sum.inr)
    (hs : ∀ x H2, x ∈ names → Same H1 H2 → ∀ P : VK, (∀ y H3, Same H2 H3 → R H3 x y → P y H3) → g (.str x) (List.replicate k none ++ capσ js σ) H2 fun σ2 H3 => σ2.drop k = capσ js σ ∧ te σ2 H3 P)
    (hq : ∀ D H' ys, Same H1 H' → H1 D = none → H' D = some (.lst ys) → All2 (R H') names ys → Q (.ref D) H') : CGoal (Itd a o names) g te k js σ H1 Q := by
  unfold CGoal
  intro D hD
  refine ⟨fun i m H => m = names.length - i ∧ i ≤ names.length ∧ Same H1 H ∧ ∃ ys, H D = some (.lst ys) ∧ All2 (R H) (names.take i) ys, ⟨names.length, by simp, Nat.zero_le _, same_upd hD, [], upd_same, .nil⟩, ?_⟩
  rintro i m H ⟨rfl, hi, sm, ys, hH, ar⟩
  have sq := sm _ _ hx
  by_cases hlt : i < names.length
  · refine .inr ⟨⟨⟨kvs, sq, hk⟩, hlt⟩, fun v H' y => ?_⟩
    obtain ⟨rfl, x, hxi, rfl⟩ := y
    have yl : ys.length < sizeLine := by
      rw [← ar.len, List.length_take]
      exact Nat.lt_of_le_of_lt (Nat.min_le_left _ _) (Nat.lt_of_lt_of_le hlt (Nat.le_trans hz (by decide)))
    refine hs x _ (List.mem_of_getElem? hxi) sm _ fun y H3 s3 r3 => ⟨ys, s3 _ _ hH, yl, names.length - (i + 1), by omega, rfl, hlt, same_app' (sm.trans s3) hD, ys ++ [y], upd_same, ?_⟩
    have kt : Kt H3 (upd H3 D (.lst (ys ++ [y]))) := kt_upd (s3 _ _ hH)
    rw [List.take_add_one, hxi]
    exact (ar.imp fun v y r => up v y _ _ ((kt_of s3).trans kt) r).snoc (up _ _ _ _ kt r3)
  · have e : i = names.length := by omega
    subst e
    rw [List.take_length] at ar
    exact .inl ⟨⟨⟨kvs, sq, hk⟩, Nat.le_refl _⟩, hq D _ ys sm hD hH ar⟩
theorem for_keys {a : Addr} {o : Obj} {kvs : List (Key × V)} {names : List Str} {g : TG} {tb : TS} {D : Ends} {σ : L2.St} {H : Hp} (hk : kvs.map (·.1) = names.map Sum.inr) (Pv : Nat → L2.St → Hp → Prop) (h0 : Pv 0 σ H) (hl : ∀ i σ H, Pv i σ H → H a = some (.frz o (.dK kvs)))
    (hs : ∀ i x σ H, names[i]? = some x → Pv i σ H → g (.str x) σ H fun σ2 H2 => tb { D with nx := Pv (i + 1), ct := Pv (i + 1), bk := D.nx } σ2 H2) (hd : ∀ σ H, Pv names.length σ H → D.nx σ H) :
    ∃ W : Nat → Nat → L2.St → Hp → Prop, (∃ m, W 0 m σ H) ∧ ∀ i m σ H, W i m σ H →
      ((Itd a o names).stop i H ∧ D.nx σ H) ∨ ((Itd a o names).go i H ∧ ∃ N : L2.St → Hp → Prop, (∀ σ' H', N σ' H' → ∃ m', m' < m ∧ W (i + 1) m' σ' H') ∧ ∀ x H', (Itd a o names).yld i H x H' → g x σ H' fun σ2 H2 => tb { D with nx := N, ct := N, bk := D.nx } σ2 H2) := by
  refine ⟨fun i m σ H => m = names.length - i ∧ i ≤ names.length ∧ Pv i σ H, ⟨names.length, by simp, Nat.zero_le _, h0⟩, ?_⟩
  rintro i m σ H ⟨rfl, hi, p⟩
  have q1 := hl i σ H p
  by_cases hlt : i < names.length
  · refine .inr ⟨⟨⟨kvs, q1, hk⟩, hlt⟩, Pv (i + 1), fun σ' H' p' => ⟨names.length - (i + 1), by omega, rfl, hlt, p'⟩, fun v H' y => ?_⟩
    obtain ⟨rfl, x, hxi, rfl⟩ := y
    exact hs i x σ H' hxi p
  · have e : i = names.length := by omega
    subst e
    exact .inl ⟨⟨⟨kvs, q1, hk⟩, Nat.le_refl _⟩, hd σ H p⟩
end
end Lw
end
section
set_option Elab.async false
set_option linter.all false
set_option maxRecDepth 100000
set_option maxHeartbeats 4000000
namespace Lw
open PySem PySem.Spec PyProof.Rows L2
theorem u1 {n m : Nat} (h : n + 64 < m) : n + 1 < m := by omega
structure TL (kvs : List (Key × V)) (ks : List Str) (f : Str → Int) : Prop where
  key : kvs.map (·.1) = ks.map Sum.inr
  nd : ks.Nodup
  val : ∀ x, valV kvs (Sum.inr x) = if x ∈ ks then some (.int (f x)) else none
  out : ∀ x, x ∉ ks → f x = 0
def cntG (x : Str) (gs : List Gm) : Int := ((tld x gs).length : Int)
def sumH (gs : List Gm) : Int := (gs.map (·.h)).sum
def wonX (x : Str) (gs : List Gm) : Int := sumH (tld x gs)
def ind (g : Gm) (x : Str) : Int := if x = g.b then 1 else if x = g.a then 1 else 0
def got (g : Gm) (x : Str) : Int := if x = g.b then 2 - g.h else if x = g.a then g.h else 0
def kf (gs : List Gm) : List Str := gs.foldl (fun l g => dd (dd l g.a) g.b) []
end Lw
end
section
set_option Elab.async false
set_option linter.all false
set_option maxRecDepth 100000
set_option maxHeartbeats 4000000
namespace Lw
open PySem PySem.Spec PyProof.Rows L2
section
variable {prog : Program} {w : World} {A : Around} {E : Value → Shared → Prop} {s : Shared}
theorem collectD {d : Addr} {vs : List (Key × Value)} {ep : Nat} {Q : List Value → Shared → Prop} (hh : A.handled = none) (hok : s.heap.DictAt (mixKind prog w) d vs ep) (lo : (d == sysModules) = false) (hn : vs.length ≤ sizeLine)
    (q : ∀ xs g tk, (∀ b o, s.heap.get? b = some o → g.get? b = some o) → s.heap.objs.size < g.objs.size → xs.length = vs.length → (∀ (j : Nat) v, xs[j]? = some v → ∃ k x, vs[j]? = some (k, x) ∧ (mixKind prog w).is k v = true) → Q xs { s with heap := g, toks := tk }) :
    wpAny (model prog w) A (collect (.ref d)) Q E s := by
  have la : d < s.heap.objs.size := hok.lt_size
  unfold collect
  refine wpAny_bind (wpAny_runValue (codeAny_builtin PySem.F.entry_proto_collect ?_))
  rw [Around.under_plainId PySem.F.plain_proto_collect _]
  show wpAny _ A.in1 (newList [] >>= fun l => again (.builtin "list.__iadd__" ⟨[l, .ref d], []⟩)) _ _ s
  refine wpAny_bind (wpAny_newObj_type (wpAny_pure ⟨plainId_quiet PySem.F.plain_list_iadd _, codeAny_builtin PySem.F.entry_list_iadd ?_⟩))
  rw [Around.under_plainId PySem.F.plain_list_iadd _]
  show wpAny _ A.in1 (Builtin.List.listExtendWith (.ref s.heap.objs.size) (.ref d) (.ref s.heap.objs.size)) _ _ _
  have hS : (s.heap.push { cls := .type "list", data := .seq ([] : List Value).toArray }).get? s.heap.objs.size = some { cls := .type "list", data := .seq #[] 0 } := Heap.get?_push_size _ rfl
  refine PySem.W.kdl_extend (R := wants (fun v s' => wpAny (model prog w) A (match v with | Value.ref a => (do let o ← load a; match o.data with | .seq xs _ => pure xs.toList | _ => unsupported "internal:collect") | _ => unsupported "internal:collect") Q E s') E) (s := { s with heap := s.heap.push { cls := .type "list", data := .seq ([] : List Value).toArray } }) (PySem.W.kdl_dict lo) hh (hok.push _) s.heap.objs.size (Nat.ne_of_gt la) (Nat.ne_of_gt la) (.ref s.heap.objs.size) 0 hS (fun h' tk acc c hk hS' it => ?_) hn
  show wpAny _ A (load s.heap.objs.size >>= _) _ _ _
  refine wpAny_bind (wpAny_load hS' (wpAny_pure (q acc.toList h' tk (fun b o e => hk b o (Nat.ne_of_lt (Heap.lt_size e)) (Heap.get?_push_of_some _ e)) (Heap.lt_size hS') (by rw [Array.length_toList]; exact it.1) fun j v hv => it.2 j v (by rw [← Array.getElem?_toList]; exact hv))))
theorem strs_of_get : ∀ {names : List Str} {us : List Value}, us.length = names.length → (∀ (j : Nat) v, us[j]? = some v → ∃ x t, names[j]? = some x ∧ v = Value.str x t) → StrsAre us names
  | [], [], _, _ => .nil
  | [], _ :: _, h, _ => by simp at h
  | _ :: _, [], h, _ => by simp at h
  | x :: names, u :: us, h, a => by
    obtain ⟨y, t, e1, e2⟩ := a 0 u rfl
    simp at e1
    subst e1 e2
    refine .cons _ t (strs_of_get (by simpa using h) fun j v hv => ?_)
    have := a (j + 1) v (by simpa using hv)
    simpa using this
end
section
variable {X : Cx}
def dSortD : List V → Hp → VK → Prop := fun xs H Q => match xs with
  | [.ref d] => ∃ (kvs : List (Key × V)) (names : List Str), H d = some (.dK kvs) ∧ kvs.map (·.1) = names.map Sum.inr ∧ names.length < 64 ∧ names.Nodup ∧ ∀ D, H D = none → Q (.ref D) (upd H D (.lst ((srt names).map V.str)))
  | _ => False
theorem c_sortD (hc : X.calm = true := by rfl) : CallR X (.builtin "sorted") dSortD := by
  intro pins s σ H xs us Q I r h
  match xs, h with
  | [.ref d], ⟨kvs, names, e, hk, h64, nd, q⟩ =>
    obtain ⟨u, rfl, ru⟩ := r.one
    cases (show u = Value.ref d from ru)
    obtain ⟨z, lo, vs, rel, dd⟩ := dk_of I.hok e
    have kk := rel.keys
    have kl := rel.length
    obtain ⟨o, es, ep, r1⟩ := dd
    have at' : s.heap.DictAt (mixKind X.prog X.w) d vs ep := ⟨o, es, r1⟩
    have nl : kvs.length = names.length := by
      have := congrArg List.length hk
      simpa using this
    have hh := I.ok.hd hc
    refine Calls.call_function_entry kind_sorted plain_sorted entry_sorted (args_sorted1 _) ?_
    unfold Builtin.«sorted»
    refine wpAny_bind (m := checkCount "sorted" 1 1 _) (wpAny_pure (wpAny_bind (collectD (by simp [hh]) at' lo (by omega) fun xs g tk keep lg hl hg => ?_)))
    have sa : StrsAre xs names := strs_of_get (by omega) fun j v hv => by
      obtain ⟨k, x, h1, h2⟩ := hg j v hv
      have h3 : (vs.map (·.1))[j]? = some k := by rw [List.getElem?_map, h1]; rfl
      rw [← kk, hk, List.getElem?_map] at h3
      cases hn : names[j]? with
      | none =>
        rw [hn] at h3
        cases h3
      | some y =>
        rw [hn] at h3
        cases h3
        rcases keyIs_shape (show keyIs (Sum.inr y) v = true from h2) with ⟨i, t, e1, _⟩ | ⟨y', t, e1, e2⟩
        · cases e1
        · cases e1
          exact ⟨y, t, rfl, e2⟩
    refine wpAny_bind (wpAny_newList ?_ (by omega))
    have hoL : (g.push (seqObj "list" xs.toArray 0)).get? g.objs.size = some (seqObj "list" xs.toArray 0) := Heap.get?_push_size _ rfl
    refine wpAny_bind (wpAny_holding (wpAny_call_entry slot_list_sort ⟨_, hoL, rfl⟩ entry_list_sort (list_sort_treeK strKind_oneLt hoL sa.keysOf (fun v1 v2 r e => keyKind_strs (by rw [← e]; exact sa)) (by omega) fun st' a1 a2 => ⟨_, rfl, wpAny_pure ⟨_, rfl, ?_⟩⟩) (args_list_sort _)))
    obtain ⟨ys, b1, b2, b3⟩ := sorted_out_str sa a1 a2
    obtain ⟨n, hn⟩ := sortedHeap_at (out := (arrOf st').map (·.2)) hoL
    have ey : ys = srt names := inc_ext (pairwise_inc (sorted_le b3) (b2.nodup_iff.mpr nd)) (inc_srt _) fun x => by rw [b2.mem_iff, mem_srt]
    subst ey
    have keep2 : ∀ b ob, s.heap.get? b = some ob → (sortedHeap (g.push (seqObj "list" xs.toArray 0)) g.objs.size xs ((arrOf st').map (·.2))).get? b = some ob := fun b ob e => by
      have hb := Heap.lt_size (keep b ob e)
      rw [sortedHeap_old (Nat.ne_of_lt hb) (by rw [Heap.size_push]; exact Nat.lt_succ_of_lt hb)]
      exact Heap.get?_push_of_some _ (keep b ob e)
    have I2 := I.laid (t' := tk) (h' := sortedHeap (g.push (seqObj "list" xs.toArray 0)) g.objs.size xs ((arrOf st').map (·.2))) (a := g.objs.size) (o := .lst ((srt names).map V.str)) keep2 (Nat.le_of_lt lg) ⟨by rw [List.length_map, b2.length_eq]; omega, ((arrOf st').map (·.2)).toList, n, vals_str b1, by rw [hn]⟩
    exact ⟨.ref g.objs.size, _, I2, rfl, q _ (I.hok.fresh (Nat.le_of_lt lg))⟩
end
inductive Rch (gs : List Gm) (n : Str) : Str → Prop where
  | here : Rch gs n n
  | step {x y : Str} : Rch gs n x → y ∈ tkr x gs → Rch gs n y
end Lw
end
section
set_option Elab.async false
set_option linter.all false
set_option maxRecDepth 100000
set_option maxHeartbeats 4000000
namespace Lw
open PySem PySem.Spec PyProof.Rows L2
section
variable {X : Cx} {i o : Expr} {ty td : TE} {pos : Pos}
theorem t_dnotin (hu : X.A.units + 1 < cLine) (hi : PE X i ty) (ho : PE X o td) (hm : behindInMarks .NotIn o = false) : PT X (.Compare i [.NotIn] [o] pos) (dTest (tDNotIn ty td)) := by
  rw [dTest_eqB]
  exact pt_cmp (pc_dnotin hu hi ho) hm
end
def VL (H : Hp) (R : Addr) (kvs : List (Key × V)) : Prop := ∀ kv ∈ kvs, ∃ p zs, kv.2 = V.ref p ∧ p ≠ R ∧ H p = some (.lst zs) ∧ zs.length ≤ kvs.length
structure WI (gs : List Gm) (n : Str) (H Hx : Hp) (D R : Addr) (ks rs : List Str) (kvs : List (Key × V)) : Prop where
  sm : Same H Hx
  eD : Hx D = some (.dK kvs)
  ky : kvs.map (·.1) = (ks ++ rs).map Sum.inr
  vl : VL Hx R kvs
  eR : Hx R = some (.lst (rs.map V.str))
  nd : (ks ++ rs).Nodup
  rc : ∀ x ∈ ks ++ rs, Rch gs n x
end Lw
end
section
set_option Elab.async false
set_option linter.all false
set_option maxRecDepth 100000
set_option maxHeartbeats 4000000
namespace Lw
open PySem PySem.Spec PyProof.Rows L2
section
variable {X : Cx}
def dAny (K : PySem.W.Frag) : List V → Hp → VK → Prop := fun xs H Q => match xs with
  | [.ref p] => ∃ bs : List Bool, SqL K H p (bs.map V.bl) ∧ Q (.bl (bs.any id)) H
  | _ => False
end
end Lw
end
section
set_option Elab.async false
set_option linter.all false
set_option maxRecDepth 100000
set_option maxHeartbeats 4000000
namespace Lw
open PySem PySem.Spec PyProof.Rows L2
abbrev cxD (X : Cx) (N cs : List Str) (s₀ : Shared) (H₀ : Hp) (env : Env) (fp : List Addr) : Cx :=
  { X with N := N, s₀ := s₀, H₀ := H₀, env := env, outer := X.stack, ex := fp, fn := fun x => cs.contains x, pn := [], xe := fun _ _ => False }
section
variable {M : Model} {A : Around} {E : Value → Shared → Prop} {s : Shared}
end
section
variable {X : Cx}
end
end Lw
end
set_option maxRecDepth 100000
set_option linter.all false
namespace PySem
open Sem (wp)
namespace F
end F
theorem lz_list_keys : typeLookup (.type "list") "keys" = pure none := by rw [typeLookup_type, builtinLookup_eq_fast]; kernel_rfl
theorem lz_keys_none_list {prog : Program} {w : World} {A : Around} {E : Value → Shared → Prop} {s : Shared} {a : Addr} {o : Obj} {xs : Array Value} {k : Nat} {Q : Option Value → Shared → Prop}
    (hx : s.heap.get? a = some o) (hc : o.cls = .type "list") (hdat : o.data = .seq xs k) (hd : o.dict = none) (hA : A.handled = none)
    (h : ∀ h' tk, (∀ b o, s.heap.get? b = some o → h'.get? b = some o) → Q none { s with heap := h', toks := tk }) :
    wpAny (model prog w) A (getAttr? (.ref a) "keys") Q E s := by
  obtain ⟨c, dct, dat, sl⟩ := o
  simp only at hc hdat hd
  subst hc hdat hd
  obtain ⟨hp, g, d, tk, os⟩ := s
  have hT : ∀ tk', (⟨hp, g, d, tk', os⟩ : Shared).TypeIs (.ref a) "list" := fun _ => ⟨_, hx, rfl⟩
  have f1 := sub_AttributeError
  have f3 := F.slot_list_getattribute.lookup
  have f4 := F.slot_list_getattribute.bind (.ref a)
  have f5 := am_list_getattr_none
  unfold getAttr? getAttrBy? getAttrBy
  repeat (any_goals (first | assumption | exact hT _ | ((with_reducible show wpAny _ _ (call (Value.builtin "list.__getattribute__") _ _) _ _ _); refine call_meets F.slot_list_getattribute (hT _) am_entry_list_getattribute (F.args_list_getattribute_2 _ _) (meets_getattribute_miss_list a xs k sl "keys" _ lz_list_keys (by decide +kernel) (by size_fits)) ⟨hx, hA, fun h' tk' e hx' => ?_⟩) | wp_step))
  obtain ⟨t', u', he⟩ := hx'.there
  show wpAny _ _ (getattributeRaised _ _ _ _ _ _ _) _ _ _
  unfold getattributeRaised
  repeat (any_goals (first | assumption | wp_step))
  exact h _ _ hx'.keeps
end PySem
section
set_option Elab.async false
set_option linter.all false
set_option maxRecDepth 100000
set_option maxHeartbeats 4000000
namespace Lw
open PySem PySem.Spec PyProof.Rows L2
abbrev IsZ2 (h : Heap) (z TI TO a : Addr) (b : Bool) : Prop :=
  h.get? z = some { cls := .type "zip", data := .fields #[rawInt a, .bool b, .bool false, .ref TI, .ref TO] }
section
variable {prog : Program} {w : World} {A : Around} {E : Value → Shared → Prop} {s : Shared}
theorem dz_entry : entryFor table "dict.update.loop" = some Builtin.«dict.update.loop» := entryFor_of_tree (by kernel_rfl)
section
variable {K : Type} [DecidableEq K] {knd : KeyKind prog w K}
structure Dz (knd : KeyKind prog w K) (k1 k2 : Bool) (z TI TO i1 i2 l1 l2 D : Addr) (xs ys : Array Value) (kvs : List (K × Value)) (h0 : Heap) (i : Nat) (h : Heap) : Prop where
  dd : h.DictOf knd D (kvs.take i)
  ia : ItK k1 h i1 l1 i
  ib : ItK k2 h i2 l2 i
  sx : SeK k1 h l1 xs
  sy : SeK k2 h l2 ys
  ti : IsPair h TI (.ref i1) (.ref i2)
  zz : (i = 0 ∧ IsZip h z TI TO .none ∧ ∃ u v, IsPair h TO u v) ∨ ∃ p q oa, IsZ2 h z TI TO p q ∧ h.get? p = some oa ∧ p ≠ z ∧ p ≠ i1 ∧ p ≠ i2 ∧ p ≠ D
  old : ∀ c o, c ≠ z → c ≠ TO → c ≠ i1 → c ≠ i2 → c ≠ D → h0.get? c = some o → h.get? c = some o
theorem take_stored {kvs : List (K × Value)} {i : Nat} {k : K} {v : Value} (hn : (kvs.map (·.1)).Nodup) (e : kvs[i]? = some (k, v)) : stored (kvs.take i) k v = kvs.take (i + 1) := by
  have hlt : i < kvs.length := (List.getElem?_eq_some_iff.mp e).1
  have hno : (kvs.take i).any (fun kv => kv.1 = k) = false := by
    rw [Bool.eq_false_iff]
    intro ha
    obtain ⟨kv, hm, hk⟩ := List.any_eq_true.mp ha
    obtain ⟨j, hj⟩ := List.mem_iff_getElem?.mp hm
    have hji : j < i := by
      have := (List.getElem?_eq_some_iff.mp hj).1
      rw [List.length_take] at this
      omega
    rw [List.getElem?_take_of_lt hji] at hj
    have e1 : (kvs.map (·.1))[j]? = some k := by rw [List.getElem?_map, hj]; exact congrArg some (by simpa using hk)
    have e2 : (kvs.map (·.1))[i]? = some k := by rw [List.getElem?_map, e]; rfl
    obtain ⟨b1, c1⟩ := List.getElem?_eq_some_iff.mp e1
    obtain ⟨b2, c2⟩ := List.getElem?_eq_some_iff.mp e2
    exact (List.pairwise_iff_getElem.mp hn) j i b1 b2 hji (c1.trans c2.symm)
  unfold stored
  rw [hno, List.take_add_one, e]
  rfl
end
end
def tDzip (k1 k2 : Bool) (K : PySem.W.Frag) (ta : TA) : TE := fun σ H Q => ta σ H fun vs H1 => match vs with
  | [.ref a, .ref b] => ∃ (ks : List Key) (ws : List V), SqK k1 K H1 a (ks.map kV) ∧ SqK k2 K H1 b ws ∧ ks.length ≤ ws.length ∧ ks.Nodup ∧ ks.length ≤ 1000 ∧ ∀ D H', H1 D = none → H' = upd H1 D (.dK (ks.zip ws)) → Q (.ref D) H'
  | _ => False
section
variable {X : Cx}
end
end Lw
end
section
set_option Elab.async false
set_option linter.all false
set_option maxRecDepth 100000
set_option maxHeartbeats 4000000
namespace Lw
open PySem PySem.Spec PyProof.Rows L2
section
variable {prog : Program} {w : World} {A : Around} {E : Value → Shared → Prop} {s : Shared}
variable {K : Type} [DecidableEq K] {knd : KeyKind prog w K}
theorem dp_pair {p : Addr} {x y : Value} {Q : List Value → Shared → Prop} (h : IsTup s.heap p #[x, y]) (q : Q [x, y] s) : wpAny (model prog w) A (Builtin.Dict.pairItems (.ref p)) Q E s := by
  obtain ⟨o, e, c, n, d⟩ := h
  unfold Builtin.Dict.pairItems
  refine wpAny_bind (wpAny_typeOf (T := "tuple") ⟨_, e, c⟩ ?_)
  rw [if_pos (by decide)]
  exact wpAny_bind (wpAny_seqItems e d (wpAny_pure q))
structure Dp (knd : KeyKind prog w K) (I l D : Addr) (xs : Array Value) (kvs : List (K × Value)) (h0 : Heap) (i : Nat) (h : Heap) : Prop where
  dd : h.DictOf knd D (kvs.take i)
  st : h.IsListIter I l i ∧ h.IsList l xs
  old : ∀ c o, c ≠ I → c ≠ D → h0.get? c = some o → h.get? c = some o
theorem dp_loop {I l D : Addr} {xs : Array Value} {kvs : List (K × Value)} {h0 : Heap} {R : Result → Shared → Prop} (hh : A.handled = none) (lI : l ≠ I) (lD : l ≠ D) (ID : I ≠ D)
    (hn : (kvs.map (·.1)).Nodup) (hz : kvs.length ≤ sizeLine) (hl : xs.size = kvs.length)
    (hp : ∀ (i : Nat) (k : K) (v : Value), kvs[i]? = some (k, v) → ∃ p x, xs[i]? = some (.ref p) ∧ p ≠ I ∧ p ≠ D ∧ knd.is k x = true ∧ IsTup h0 p #[x, v]) : ∀ (n i : Nat) (s : Shared), i + n = kvs.length → Dp knd I l D xs kvs h0 i s.heap →
    (∀ h' tk, h'.DictOf knd D kvs → (∀ c o, c ≠ I → c ≠ D → h0.get? c = some o → h'.get? c = some o) → R (.ok (.ret .none)) { s with heap := h', toks := tk }) →
    codeAny (model prog w) A (.builtin "dict.update.loop" ⟨[.ref D, .ref I, rawInt i, .none], []⟩) R s
  | 0, i, s, hi, S, fin => by
    refine codeAny_builtin dz_entry ?_
    have hi : i = kvs.length := by omega
    subst hi
    have W := Walks.list (prog := prog) (w := w) (A := A.in1) hh I l lI xs
    have dd : s.heap.DictOf knd D kvs := by have := S.dd; rwa [List.take_length] at this
    unfold Builtin.«dict.update.loop»
    refine wpAny_bind (W.done s _ _ (by rw [hl]; exact S.st) fun g tk k => ?_)
    refine wpAny_bind (wpAny_pure (wpAny_pure (fin g tk ?_ fun c o n1 n2 e => k c o (fun m => n1 (List.mem_singleton.mp m)) (S.old c o n1 n2 e))))
    obtain ⟨o, es, ep, ho, r⟩ := dd
    exact ⟨o, es, ep, k _ _ (fun m => ID (List.mem_singleton.mp m).symm) ho, r⟩
  | n + 1, i, s, hi, S, fin => by
    refine codeAny_builtin dz_entry ?_
    obtain ⟨⟨k, v⟩, ek⟩ : ∃ kv, kvs[i]? = some kv := ⟨kvs[i]'(by omega), List.getElem?_eq_getElem (by omega)⟩
    obtain ⟨p, x, ex, pI, pD, hk, hpr⟩ := hp i k v ek
    have W := Walks.list (prog := prog) (w := w) (A := A.in1) hh I l lI xs
    unfold Builtin.«dict.update.loop»
    refine wpAny_bind (W.item i s _ _ (by omega) S.st fun v' g tk hv st' kp => ?_)
    rw [ex] at hv
    cases hv
    have kp' : ∀ c o, c ≠ I → s.heap.get? c = some o → g.get? c = some o := fun c o n e => kp c o (fun m => n (List.mem_singleton.mp m)) e
    have gp : IsTup g p #[x, v] := by
      obtain ⟨o, ho, r⟩ := hpr
      exact ⟨o, kp' _ _ pI (S.old _ _ pI pD ho), r⟩
    have gd : g.DictOf knd D (kvs.take i) := by
      obtain ⟨o, es, ep, ho, r⟩ := S.dd
      exact ⟨o, es, ep, kp' _ _ (Ne.symm ID) ho, r⟩
    refine wpAny_bind (wpAny_holding (wpAny_bind (wpAny_tryCatch (dp_pair gp ?_))))
    refine wpAny_holding (wpAny_dictSet_pairs hk gd (fun g' gd' sb => ?_) (by rw [List.length_take]; omega))
    rw [take_stored hn ek] at gd'
    refine wpAny_pure ⟨Code.quiet_builtin _ (by decide +kernel), ?_⟩
    refine dp_loop hh lI lD ID hn hz hl hp n (i + 1) _ (by omega) ⟨gd', ?_, fun c o n1 n2 e => sb.extBut _ _ n2 (kp' _ _ n1 (S.old c o n1 n2 e))⟩ fin
    exact W.frame _ _ _ st' fun b hb o e => sb.extBut _ _ (fun c => by
      rcases List.mem_cons.mp hb with e' | hb
      · exact ID (e'.symm.trans c)
      · exact lD ((List.mem_singleton.mp hb).symm.trans c)) e
theorem dp_call {l : Addr} {xs : Array Value} {kvs : List (K × Value)} {Q : Value → Shared → Prop} (hh : A.handled = none) (hl : s.heap.IsList l xs) (hd0 : ∃ o n, s.heap.get? l = some o ∧ o.cls = .type "list" ∧ o.data = .seq xs n ∧ o.dict = none)
    (hn : (kvs.map (·.1)).Nodup) (hz : kvs.length ≤ sizeLine) (hs : xs.size = kvs.length)
    (hp : ∀ (i : Nat) (k : K) (v : Value), kvs[i]? = some (k, v) → ∃ p x, xs[i]? = some (.ref p) ∧ knd.is k x = true ∧ IsTup s.heap p #[x, v])
    (fin : ∀ h' tk, Heap.DictOf knd h' s.heap.objs.size kvs → (∀ c o, s.heap.get? c = some o → h'.get? c = some o) → Q (.ref s.heap.objs.size) { s with heap := h', toks := tk }) :
    wpAny (model prog w) A (call (.type "dict") [.ref l]) Q E s := by
  refine callType_codes (Q₁ := fun obj s₁ => obj = .ref s.heap.objs.size ∧ s₁ = { s with heap := s.heap.push { cls := .type "dict", data := .dict #[] } }) F.kt_called_dict (F.kt_typeCall_dict_1 _) F.entry_dict_init (kt_code_dict_new _ ⟨rfl, rfl⟩) ?_
  rintro obj s₁ ⟨rfl, rfl⟩
  have hnew : (s.heap.push { cls := .type "dict", data := .dict #[] }).DictOf knd s.heap.objs.size [] := Heap.DictOf.new s.heap
  refine ⟨hnew.typeIs, F.args_dict_init_2 _ _, ?_⟩
  unfold Builtin.«dict.__init__»
  refine wpAny_bind ?_
  unfold Builtin.Dict.selfAndRest
  refine wpAny_bind (wpAny_notOrdered_dict hnew.typeIs ?_)
  show wpAny _ _ (pure (s.heap.objs.size, [Value.ref l])) _ _ _
  refine wpAny_pure ?_
  show wpAny _ _ (Builtin.Dict.updateFrom "dict.__init__" s.heap.objs.size (.ref l) [] .none) _ _ _
  unfold Builtin.Dict.updateFrom
  obtain ⟨ol, nl, el, cl, dl, dcl⟩ := hd0
  have el1 := Heap.get?_push_of_some { cls := .type "dict", data := .dict #[] } el
  refine wpAny_bind (wpAny_typeOf (T := "list") ⟨_, el1, cl⟩ ?_)
  rw [if_pos (by decide)]
  refine wpAny_bind (lz_keys_none_list el1 cl dl dcl hh fun h1 tk1 kp => ?_)
  simp only [Option.isNone_none, if_true]
  refine wpAny_bind (wpAny_rule ?_)
  have hl1 : h1.IsList l xs := ⟨ol, kp _ _ el1, cl, nl, dl⟩
  refine wpAny_bind (wpAny_pyIter_list hl1 ?_)
  refine wpAny_pure ⟨Code.quiet_builtin _ (by decide +kernel), ?_⟩
  have lt : @LT.lt Nat _ l s.heap.objs.size := Heap.lt_size el
  have ltD : @LT.lt Nat _ s.heap.objs.size h1.objs.size := by
    obtain ⟨o, es, ep, ho, r⟩ := hnew
    exact Heap.lt_size (kp _ _ ho)
  have old : ∀ c o, s.heap.get? c = some o → h1.get? c = some o := fun c o e => kp c o (Heap.get?_push_of_some _ e)
  dsimp only
  refine dp_loop (knd := knd) (A := A.in1) (h0 := h1) hh (show @Ne Nat _ _ by omega) (show @Ne Nat _ _ by omega) (show @Ne Nat _ _ by omega) hn hz hs (fun i k v e => ?_) kvs.length 0 _ (by omega) ⟨?_, ⟨⟨_, Heap.get?_push_size _ rfl, rfl, rfl⟩, hl1.push _⟩, fun c o n1 n2 e => Heap.get?_push_of_some _ e⟩ fun h' tk dd k => ?_
  · obtain ⟨p, x, e1, e2, e3⟩ := hp i k v e
    obtain ⟨op, ep, rp⟩ := e3
    have lp : @LT.lt Nat _ p s.heap.objs.size := Heap.lt_size ep
    exact ⟨p, x, e1, show @Ne Nat _ _ by omega, show @Ne Nat _ _ by omega, e2, op, old _ _ ep, rp⟩
  · obtain ⟨o, es, ep, ho, r⟩ := hnew
    exact ⟨o, es, ep, Heap.get?_push_of_some _ (kp _ _ ho), r⟩
  · refine ⟨rfl, fin h' tk dd fun c o e => ?_⟩
    have lc : @LT.lt Nat _ c s.heap.objs.size := Heap.lt_size e
    exact k c o (show @Ne Nat _ _ by omega) (show @Ne Nat _ _ by omega) (old c o e)
end
section
variable {X : Cx}
def dDictL (K : PySem.W.Frag) : List V → Hp → VK → Prop := fun vs H Q => match vs with
  | [.ref a] => ∃ (xs : List V) (kvs : List (Key × V)), SqL K H a xs ∧ Paired (fun v (kv : Key × V) => ∃ p, v = V.ref p ∧ H p = some (.tup [kV kv.1, kv.2])) xs kvs ∧ (kvs.map (·.1)).Nodup ∧ kvs.length ≤ 1000 ∧ ∀ D, H D = none → Q (.ref D) (upd H D (.dK kvs))
  | _ => False
theorem dp_vals {pins : List (Addr × Obj)} {σ : L2.St} {H : Hp} {s : Shared} (I : Inv X pins σ H s) : ∀ {xs : List V} {kvs : List (Key × V)} {us : List Value}, Vals xs us → Paired (fun v (kv : Key × V) => ∃ p, v = V.ref p ∧ H p = some (.tup [kV kv.1, kv.2])) xs kvs →
    ∃ ws : List (Key × Value), KV kvs ws ∧ ∀ (i : Nat) (k : Key) (v : Value), ws[i]? = some (k, v) → ∃ p x, us[i]? = some (.ref p) ∧ (mixKind X.prog X.w).is k x = true ∧ IsTup s.heap p #[x, v]
  | _, _, _, .nil, .nil => ⟨[], .nil, fun i k v e => by simp at e⟩
  | _, _, _, .cons r t, .cons ⟨p, e, h⟩ t' => by
    subst e
    cases r
    obtain ⟨ws, h1, h2⟩ := dp_vals I t t'
    obtain ⟨its, rv, pl, _⟩ := I.tuple (SqT.of h)
    cases rv with
    | cons ra rb =>
    cases rb with
    | cons rc rd =>
    cases rd
    rename_i x0 v0
    refine ⟨(_, v0) :: ws, .cons ⟨rfl, rc⟩ h1, fun i k v e => ?_⟩
    cases i with
    | zero =>
      cases e
      exact ⟨p, x0, rfl, kV_is ra, pl⟩
    | succ i => exact h2 i k v (by simpa using e)
theorem c_dictL (hcalm : X.calm = true) : CallR X (.type "dict") (dDictL X.K) := by
  intro pins s σ H xs us Q I r h
  match xs, h with
  | [.ref a], ⟨xs, kvs, hx, hp, hn, hz, q⟩ =>
    obtain ⟨u, rfl, r1⟩ := vals1 r
    cases (show u = Value.ref a from r1)
    obtain ⟨its, rv, pl, _⟩ := I.list hx
    obtain ⟨ws, rel, hw⟩ := dp_vals I rv hp
    have l1 := rv.length
    have l2 := rel.length
    have l3 := Paired.length hp
    obtain ⟨o, n, e, c, d, dn⟩ := pl
    have kw : ws.map (·.1) = kvs.map (·.1) := by
      have : ∀ {a : List (Key × V)} {b : List (Key × Value)}, KV a b → b.map (·.1) = a.map (·.1) := fun {a b} h => by
        induction h with
        | nil => rfl
        | cons h t ih =>
          rw [List.map_cons, List.map_cons, ih, h.1]
      exact this rel
    refine dp_call (knd := mixKind X.prog X.w) (kvs := ws) (I.ok.hd hcalm) ⟨o, e, c, n, dn⟩ ⟨o, n, e, c, dn, d⟩ (by rw [kw]; exact hn) (by rw [← l2]; exact Nat.le_trans hz (by decide)) (by simp only [List.size_toArray]; omega) (fun i k v hi => ?_) fun h' tk dd kp => ?_
    · obtain ⟨p, x, h1, h2, h3⟩ := hw i k v hi
      exact ⟨p, x, by simpa using h1, h2, h3⟩
    · have hD : H s.heap.objs.size = none := I.hok.fresh (Nat.le_refl _)
      refine ⟨.ref s.heap.objs.size, _, I.laid (a := s.heap.objs.size) (o := .dK kvs) (t' := tk) kp (Nat.le_refl _) (dk_new (Nat.le_trans hz (by decide)) ?_ rel dd), rfl, q _ hD⟩
      have : @LT.lt Nat _ sysModules s.heap.objs.size := I.big
      exact beq_eq_false_iff_ne.mpr (show @Ne Nat _ _ by omega)
def dDictC : List V → Hp → VK → Prop := fun vs H Q => match vs with
  | [.ref a] => ∃ kvs, Rd H a (.dK kvs) ∧ ∀ D, H D = none → Q (.ref D) (upd H D (.dK kvs))
  | _ => False
def mgV (kvs more : List (Key × V)) : List (Key × V) := more.foldl (fun acc kv => putK acc kv.1 kv.2) kvs
theorem mg_rel : ∀ {more : List (Key × V)} {kvs : List (Key × V)} {ms ks : List (Key × Value)}, KV kvs ks → KV more ms → KV (mgV kvs more) (merged ks ms)
  | _, _, _, _, r, .nil => r
  | _, _, _, _, r, .cons h t => by
    obtain ⟨h1, h2⟩ := h
    rename_i a b _ _
    have := mg_rel (r.put a.1 h2) t
    obtain ⟨b1, b2⟩ := b
    cases h1
    exact this
theorem mg_len : ∀ (more kvs : List (Key × V)), (mgV kvs more).length ≤ kvs.length + more.length
  | [], kvs => Nat.le_refl _
  | m :: more, kvs => by
    have := mg_len more (putK kvs m.1 m.2)
    have l := length_putK kvs m.1 m.2
    show (mgV (putK kvs m.1 m.2) more).length ≤ _
    rw [List.length_cons]
    omega
def tDUpd (td ty : TE) : TE := fun σ H Q => td σ H fun x H1 => ∃ a, x = .ref a ∧ IsD H1 a ∧ ty σ H1 fun y H2 => ∃ b kvs more, y = .ref b ∧ a ≠ b ∧ H2 a = some (.dK kvs) ∧ Rd H2 b (.dK more) ∧ kvs.length + more.length ≤ 1000 ∧ Q .non (upd H2 a (.dK (mgV kvs more)))
theorem pe_dupd {o e : Expr} {apos cpos : Pos} {td ty : TE} (ho : PE X o td) (he : PE X e ty) (m : M1 X o "update" apos e cpos) : PE X (.Call (.Attribute o "update" apos) [e] [] cpos) (tDUpd td ty) := by
  intro pins s σ H Q I h
  refine wpAny_Call_method m.base m.few m.line PySem.F.plainAttrs_dict PySem.F.slot_dict_update PySem.F.type_dict_update (thn (ho pins s σ H _ I h) fun u s1 ⟨x, H1, I1, rx, a, ex, d, q1⟩ => ?_)
  subst ex
  obtain rfl : u = Value.ref a := rx
  obtain ⟨t1, t2, _⟩ := isD_at I1 d
  refine ⟨t1, t2, ?_⟩
  rw [m.trees]
  refine Calls.callWith_builtin rfl (Calls.evalArgs_plain (Calls.spliced_cons (thn (he pins s1 σ H1 _ I1 q1) fun iv s2 ⟨y, H2, I2, ry, b, kvs, more, ey, nab, ea, eb, hz, q2⟩ => Calls.spliced_nil ?_)))
  subst ey
  obtain rfl : iv = Value.ref b := ry
  obtain ⟨z1, hd1, ks, rel1, dd1⟩ := dk_of I2.hok ea
  obtain ⟨z2, hd2, ms, rel2, dd2⟩ := dk_rd I2.hok eb
  have l1 := rel1.length
  have l2 := rel2.length
  refine call_meetsIn PySem.F.slot_dict_update dd1.typeIs PySem.F.entry_dict_update (PySem.F.args_dict_update_2 _ _) (meets_dict_update (mixKind X.prog X.w) a b nab hd2) ⟨ks, ms, dd1, dd2, Nat.le_trans (show _ ≤ 1000 by omega) (by decide), fun h' dd' _ hs => ?_⟩
  have he' : ∃ q, h'.get? a = some q := let ⟨q, _, _, hq, _⟩ := dd'; ⟨q, hq⟩
  exact ⟨.non, _, d_write (t' := s2.toks) I2 (by rw [ea]; exact True.intro) hs he' (dk_new (Nat.le_trans (mg_len _ _) (Nat.le_trans hz (by decide))) hd1 (mg_rel rel1 rel2) dd'), rfl, q2⟩
end
end Lw
end
section
set_option Elab.async false
set_option linter.all false
set_option maxRecDepth 100000
set_option maxHeartbeats 4000000
namespace Lw
open PySem PySem.Spec PyProof.Rows L2
section
variable {X : Cx}
def iKeysF (te : TE) : TI := fun σ H R => te σ H fun x H1 => ∃ a o kvs names, x = .ref a ∧ H1 a = some (.frz o (.dK kvs)) ∧ kvs.map (·.1) = names.map Sum.inr ∧ R (Itd a o names) H1
theorem pi_keysF {tg l : Expr} {te : TE} (hl : PE X l te) : PI X tg l (iKeysF te) := by
  intro pins s σ H R I h
  refine thn (hl pins s σ H _ I h) fun v s1 ⟨x, H1, I1, r1, q1⟩ => ?_
  obtain ⟨a, o, kvs, names, e, ea, hk, q⟩ := q1
  subst e
  cases r1
  obtain ⟨e0, z, lo, vs, rel, dd⟩ := (show ObjOk X.prog X.w H1 s1.heap a (.frz o (.dK kvs)) from I1.hok a _ ea)
  have kl := rel.length
  have nl : kvs.length = names.length := by
    have := congrArg List.length hk
    simpa using this
  obtain ⟨o', es, ep, r0, r1, r2, r3⟩ := dd
  rw [e0] at r0
  cases r0
  have at' : s1.heap.DictAt (mixKind X.prog X.w) a vs ep := ⟨o, es, e0, r1, r2, r3⟩
  refine wpAny_pyIter_dict lo at' ?_
  refine ⟨s1.heap.objs.size, [s1.heap.objs.size], _, _, _, rfl, I1.kept (t' := s1.toks) fun b o e => Heap.get?_push_of_some _ e, turn_keys (a := a) (names := names) (ep := ep) r2, ⟨_, Heap.get?_push_size _ rfl, rfl, ?_⟩, fun b hb => ?_, q⟩
  · show Data.fields _ = Data.fields _
    rw [show vs.length = names.length by omega]
    rfl
  · have e : b = s1.heap.objs.size := by simpa using hb
    subst e
    exact I1.fpOk (Nat.le_refl _) (I1.hok.fresh (Nat.le_refl _))
def tFrz (t : TS) : TS := fun D σ H => ∃ a kvs, H a = some (.dK kvs) ∧ ∀ o, t D σ (upd H a (.frz o (.dK kvs)))
theorem ss_frz {r : List Stmt} {t : TS} (h : PSs X r t) : PSs X r (tFrz t) := by
  intro pins s σ H D I ⟨a, kvs, ea, q⟩
  obtain ⟨z, lo, vs, rel, dd⟩ := dk_of I.hok ea
  obtain ⟨o, es, ep, r0, r1, r2, r3⟩ := dd
  exact h pins s σ _ D (inv_frz I ea r0) (q o)
def dNiD (K : PySem.W.Frag) : R2 := fun x y H Q => ∃ (xs : List PyData) (d : PyData), Rp K H y (.list xs) ∧ Rp K H x d ∧ PyData.canLayAll0 xs = true ∧ d.canLay0 = true ∧ d.depth ≤ 8 ∧ Q (.bl (!xs.any fun y => PyData.eqv y d)) H
end
end Lw
end
section
set_option Elab.async false
set_option linter.all false
set_option maxRecDepth 100000
set_option maxHeartbeats 4000000
namespace Lw
open PySem PySem.Spec PyProof.Rows L2
section
variable {X : Cx}
def dEqK : R2 := fun x y H Q => match x, y with
  | .ref a, .ref b => ∃ ka kb, Rd H a (.dK ka) ∧ Rd H b (.dK kb) ∧ ka.length = kb.length ∧ (∀ p ∈ ka, ∃ i : Int, p.2 = .int i ∧ valV kb p.1 = some (.int i)) ∧ Q (.bl true) H
  | _, _ => False
end
end Lw
end
section
set_option Elab.async false
set_option linter.all false
set_option maxRecDepth 100000
set_option maxHeartbeats 4000000
namespace Lw
open PySem PySem.Spec PyProof.Rows L2
structure DfnN (K : PySem.W.Frag) (mg : Str → Option Value) (x : Str) (st : Stmt) (ps : List Str) : Prop where
  ex : ∃ (f : Addr) (fd : FuncData) (oc : Value) (od : Option Addr) (dV kV doc pm : Value) (an : Option Addr) (cdv ct : Value) (osl : Array (Option Value)),
    fd = PySem.W.fnOf x x (defArgs st) (defBody st) (defScope st) dV kV doc pm an cdv ct ∧ K.lookup f = some ⟨oc, od, .func fd, osl⟩ ∧ PySem.W.codeIn K cdv x = true ∧ PySem.W.keepIn K (.ref f) = true ∧ mg x = some (.ref f) ∧ Binds K fd ps [] ∧ Binds K fd ps [.none]
structure CalN (P : Program) (w : World) (K : PySem.W.Frag) (mg : Str → Option Value) (base : Heap) (x : Str) (ps : List Str) (k : Nat) (sp : Sp) : Prop where
  ex : ∃ (f : Addr) (fd : FuncData), mg x = some (.ref f) ∧ PySem.W.keepIn K (.ref f) = true ∧ Binds K fd ps [] ∧ Binds K fd ps [.none] ∧ FnOk P w K mg base (CXE P w) k f fd ps sp ∧
    ∃ (oc : Value) (od : Option Addr) (osl : Array (Option Value)), K.lookup f = some ⟨oc, od, .func fd, osl⟩
section
variable {P : Program} {w : World} {K : PySem.W.Frag} {mg : Str → Option Value} {base : Heap}
end
section
variable {X : Cx}
def dCallN (sp : Sp) (t : TA) : TE := fun σ H Q => t σ H fun vs H1 => sp (vs ++ [V.non]) H1 Q E0
end
end Lw
end
section
set_option Elab.async false
set_option linter.all false
set_option maxRecDepth 100000
set_option maxHeartbeats 4000000
namespace Lw
open PySem PySem.Spec PyProof.Rows L2
def insV (xs : List V) (k : Nat) (y : V) : List V := xs.take k ++ y :: xs.drop k
def rInsert : V → List V → Hp → VK → Prop := fun x vs H Q => ∃ l xs i y, x = .ref l ∧ vs = [.int i, y] ∧ H l = some (.lst xs) ∧ 0 ≤ i ∧ i ≤ xs.length ∧ xs.length < 1000 ∧ Q .non (upd H l (.lst (insV xs i.toNat y)))
section
variable {X : Cx}
end
structure QA (X : Cx) (es : List Expr) (t : TA) : Prop where
  pa : PA X es t
end Lw
end
section
set_option Elab.async false
set_option linter.all false
set_option maxRecDepth 100000
set_option maxHeartbeats 4000000
set_option autoImplicit false
namespace Lw
open PySem PySem.Spec PyProof.Rows L2
def tTryIf (tc : TT) (t u : TS) : TS := fun D σ H => tc σ H fun b H1 => Br b (t D σ H1) (u D σ H1)
section
variable {X : Cx} {pins : List (Addr × Obj)} {σ : L2.St} {H : Hp} {s : Shared}
theorem try_one {f : Str} {ps : List Str} {k k' : Nat} {sp : Sp} {p cpos epos yp hpos : Pos} {e : Expr} {es : List Expr} {t : TA} {D' : Addr} {n : Nat} {y nm : Str} {b₀ : Stmt} {suite : List Stmt} {tu : TS} {D : Ends} {E : Value → Shared → Prop} (dx : DefCx X)
    (C : Cal X.prog X.w X.K X.mg X.base f ps k sp) (hr : Room k' X.A) (hk : k ≤ k') (hg : Gl X f) (ha : PA X.nox (e :: es) t)
    (hy : Gl X y) (hD : X.mg y = some (.ref D')) (cD : Cat X.K D') (nd : X.N.Nodup) (hn : X.N[n]? = some nm) (hl : X.env.scope.names.lookup nm = some .local) (hu : ∀ v, PSs (cxM X v) (b₀ :: suite) tu)
    (hdb : (f == ("__debug__" : Str)) = false) (hdb2 : (y == ("__debug__" : Str)) = false) (he : starEach (e :: es) X.env = (false, eval e X.env) :: starEach es X.env) (hpl : (backTo cpos (starEach es X.env)).any (·.1) = false)
    (hs : swapsWith (.Call (.Name f p) (e :: es) [] cpos) none epos.line X.env = pure false) (I : Inv X pins σ H s) (h : tTry X.K t sp D' n tu D σ H) :
    wpAny (model X.prog X.w) X.A (execs [.Expr (.Call (.Name f p) (e :: es) [] cpos) epos] X.env) (fun fl s1 => fl = .next ∧ ∃ H2, Inv X pins σ H2 s1 ∧ D.nx σ H2)
      (fun ev s1 => wpAny (model X.prog X.w) X.A (noteFrame ev X.env) (fun _ s2 => wpAny (model X.prog X.w) X.A (setFlight ev none) (fun _ s3 =>
        wpAny (model X.prog X.w) X.A (handleBy ev X.env [.ExceptHandler (some (.Name y yp)) (some nm) (b₀ :: suite) hpos]) (SP X pins D) E s3) E s2) E s1) s := by
  obtain ⟨fa, fd, h1, h2, h3, h4, _⟩ := C.ex
  refine wpAny_execs_cons (wpAny_Expr_any ?_ I.quiet hs)
  refine wpAny_Call_Name_kw (ld_glob I hg h1 ?_ hdb)
  refine PySem.W.callWith_K (h₀ := X.base) I.ok.mod.kin h2 (wpAny_mono (ha cpos pins s σ H _ (I.wish _) h) (fun us s1 ⟨vs, H1, I1, r, q⟩ => ?_) fun _ _ z => z.elim) he hpl
  have I1 := I1.unwish
  refine ⟨I1.kIn, ?_⟩
  have hus : us.length = ps.length := by rw [← r.length]; exact h4.len _ _ _ _ q
  have hb := h3 s1 us I1.kIn (by rw [List.append_nil]; exact hus)
  rw [List.append_nil] at hb
  refine wpAny_call (codeAny_mono ((h4.mono hk).run X.A X.stack s1 H1 ⟨us, []⟩ us vs _ _ hr I1.env0 hb r q) fun res s' hq => ?_)
  cases res with
  | ok fl =>
    cases fl with
    | ret u =>
      obtain ⟨v, H2, I2, _, q2⟩ := I1.after hq
      exact wpAny_execs_nil ⟨rfl, H2, I2, q2⟩
    | next => exact False.elim hq
    | brk => exact False.elim hq
    | cont => exact False.elim hq
  | error er =>
    obtain ⟨a, cls, H2, B, a0, rfl, F, C', rfl, c, hm, q2⟩ := hq
    exact handle_ok dx I1 F hy hD cD hm nd hn hl hu hdb2 fun H3 => q2 a H3
theorem ps_tryIf {c : Expr} {tc : TT} {f f2 : Str} {ps ps2 : List Str} {k k' k2 k2' : Nat} {sp sp2 : Sp} {ip p cpos epos p2 cpos2 epos2 pos yp hpos : Pos} {e e2 : Expr} {es es2 : List Expr} {t t2 : TA} {D' : Addr} {n : Nat} {y nm : Str} {b₀ : Stmt} {suite : List Stmt} {tu : TS} (dx : DefCx X)
    (hc : PT X.nox c tc)
    (C : Cal X.prog X.w X.K X.mg X.base f ps k sp) (hr : Room k' X.A) (hk : k ≤ k') (hg : Gl X f) (ha : PA X.nox (e :: es) t)
    (C2 : Cal X.prog X.w X.K X.mg X.base f2 ps2 k2 sp2) (hr2 : Room k2' X.A) (hk2 : k2 ≤ k2') (hg2 : Gl X f2) (ha2 : PA X.nox (e2 :: es2) t2)
    (hy : Gl X y) (hD : X.mg y = some (.ref D')) (cD : Cat X.K D') (nd : X.N.Nodup) (hn : X.N[n]? = some nm) (hl : X.env.scope.names.lookup nm = some .local) (hu : ∀ v, PSs (cxM X v) (b₀ :: suite) tu)
    (hdb : (f == ("__debug__" : Str)) = false := by decide) (hdb' : (f2 == ("__debug__" : Str)) = false := by decide) (hdb2 : (y == ("__debug__" : Str)) = false := by decide) (he : starEach (e :: es) X.env = (false, eval e X.env) :: starEach es X.env := by rfl) (hpl : (backTo cpos (starEach es X.env)).any (·.1) = false := by rfl)
    (hs : swapsWith (.Call (.Name f p) (e :: es) [] cpos) none epos.line X.env = pure false := by rfl)
    (he2 : starEach (e2 :: es2) X.env = (false, eval e2 X.env) :: starEach es2 X.env := by rfl) (hpl2 : (backTo cpos2 (starEach es2 X.env)).any (·.1) = false := by rfl)
    (hs2 : swapsWith (.Call (.Name f2 p2) (e2 :: es2) [] cpos2) none epos2.line X.env = pure false := by rfl) :
    PS X (.Try [.If c [.Expr (.Call (.Name f p) (e :: es) [] cpos) epos] [.Expr (.Call (.Name f2 p2) (e2 :: es2) [] cpos2) epos2] ip] [.ExceptHandler (some (.Name y yp)) (some nm) (b₀ :: suite) hpos] [] [] pos)
      (tTryIf tc (tTry X.K t sp D' n tu) (tTry X.K t2 sp2 D' n tu)) := by
  intro pins s σ H D I h
  refine wpAny_Try_except (wpAny_execs_cons (wpAny_If (wpAny_mono (hc pins s σ H _ (I.wish _) h) (fun d s1 ⟨H1, I1, q1⟩ => ?_) fun _ _ z => z.elim)))
  have I1 := I1.unwish
  cases d with
  | true =>
    refine wpAny_mono (try_one dx C hr hk hg ha hy hD cD nd hn hl hu hdb hdb2 he hpl hs I1 (q1.1 rfl)) (fun fl s2 ⟨e1, H2, I2, q2⟩ => ?_) fun _ _ z => z
    subst e1
    exact wpAny_execs_nil (wpAny_execs_nil ⟨σ, H2, I2, q2⟩)
  | false =>
    refine wpAny_mono (try_one dx C2 hr2 hk2 hg2 ha2 hy hD cD nd hn hl hu hdb' hdb2 he2 hpl2 hs2 I1 (q1.2 rfl)) (fun fl s2 ⟨e1, H2, I2, q2⟩ => ?_) fun _ _ z => z
    subst e1
    exact wpAny_execs_nil (wpAny_execs_nil ⟨σ, H2, I2, q2⟩)
end
end Lw
end
set_option Elab.async false
set_option linter.all false
set_option maxRecDepth 100000
set_option maxHeartbeats 0
set_option exponentiation.threshold 5000
namespace My
open PySem PySem.Spec PyProof.Rows L2 Lw
local macro_rules | `(tactic| walk_at "hp") => `(tactic| first | assumption | (refine sm_at (by assumption) ?_; walk_at "hp") | (refine sm_sq (by assumption) ?_; walk_at "hp") | (refine Fq.up (by assumption) ?_; walk_at "hp") | (refine Pq.up (by assumption) ?_; walk_at "hp"))
def top (i : Nat) : Stmt := PySem.Challenge.pw_ladderworth_k62_no_tree.main.body.getD i (.Pass ⟨0, 0, 0, 0⟩)
abbrev s_is_whole : Stmt := top 14
abbrev s_fraction : Stmt := top 15
abbrev s_greatest_divisor : Stmt := top 16
abbrev s_plus : Stmt := top 17
abbrev s_times : Stmt := top 18
abbrev s_is_name : Stmt := top 22
abbrev s_share : Stmt := top 24
abbrev s_odds : Stmt := top 25
abbrev s_leaves : Stmt := top 28
abbrev s_tree_shares : Stmt := top 29
abbrev s_check_worths : Stmt := top 30
abbrev s_shares_of : Stmt := top 31
abbrev s_passed : Stmt := top 32
abbrev s_win_over : Stmt := top 33
abbrev s_game_share : Stmt := top 34
abbrev s_l_cell_at : Stmt := top 36
abbrev s_l_names : Stmt := top 37
abbrev s_l_tree : Stmt := top 38
abbrev s_l_odd : Stmt := top 39
abbrev s_l_put : Stmt := top 40
abbrev s_l_spoiled : Stmt := top 41
abbrev s_l_refused : Stmt := top 42
abbrev s_law : Stmt := top 43
structure Errs (K : PySem.W.Frag) (mg : Str → Option Value) (c_LadderError c_NoBook c_NoFit c_NoGame c_NoNumber c_NoPlayer c_NoRow c_NoStretch c_NoTable c_NoTree c_NoWorth : Addr) : Prop where
  b_LadderError : mg "LadderError" = some (.ref c_LadderError)
  b_NoBook : mg "NoBook" = some (.ref c_NoBook)
  b_NoFit : mg "NoFit" = some (.ref c_NoFit)
  b_NoGame : mg "NoGame" = some (.ref c_NoGame)
  b_NoNumber : mg "NoNumber" = some (.ref c_NoNumber)
  b_NoPlayer : mg "NoPlayer" = some (.ref c_NoPlayer)
  b_NoRow : mg "NoRow" = some (.ref c_NoRow)
  b_NoStretch : mg "NoStretch" = some (.ref c_NoStretch)
  b_NoTable : mg "NoTable" = some (.ref c_NoTable)
  b_NoTree : mg "NoTree" = some (.ref c_NoTree)
  b_NoWorth : mg "NoWorth" = some (.ref c_NoWorth)
  y_NoTree : PySem.W.nsIn K mainGlobals "NoTree" = some (some (.ref c_NoTree))
  x_LadderError : ExcC K c_LadderError
  x_NoTree : ExcC K c_NoTree
  kv_NoTree : PySem.W.kitOne K (.ref c_NoTree) (.type "ValueError") = some true
  kk_NoTree_LadderError : PySem.W.kitOne K (.ref c_NoTree) (.ref c_LadderError) = some true
  kk_NoTree_NoBook : PySem.W.kitOne K (.ref c_NoTree) (.ref c_NoBook) = some false
  kk_NoTree_NoFit : PySem.W.kitOne K (.ref c_NoTree) (.ref c_NoFit) = some false
  kk_NoTree_NoGame : PySem.W.kitOne K (.ref c_NoTree) (.ref c_NoGame) = some false
  kk_NoTree_NoNumber : PySem.W.kitOne K (.ref c_NoTree) (.ref c_NoNumber) = some false
  kk_NoTree_NoPlayer : PySem.W.kitOne K (.ref c_NoTree) (.ref c_NoPlayer) = some false
  kk_NoTree_NoRow : PySem.W.kitOne K (.ref c_NoTree) (.ref c_NoRow) = some false
  kk_NoTree_NoStretch : PySem.W.kitOne K (.ref c_NoTree) (.ref c_NoStretch) = some false
  kk_NoTree_NoTable : PySem.W.kitOne K (.ref c_NoTree) (.ref c_NoTable) = some false
  kk_NoTree_NoTree : PySem.W.kitOne K (.ref c_NoTree) (.ref c_NoTree) = some true
  kk_NoTree_NoWorth : PySem.W.kitOne K (.ref c_NoTree) (.ref c_NoWorth) = some false
  km_NoTree_LadderError : PySem.W.mroIn K c_NoTree (.ref c_LadderError) = some true
section
variable {P : Program} {w : World} {K : PySem.W.Frag} {mg : Str → Option Value} {base : Heap} {ns : List Int}
variable {c_LadderError c_NoBook c_NoFit c_NoGame c_NoNumber c_NoPlayer c_NoRow c_NoStretch c_NoTable c_NoTree c_NoWorth : Addr}
--@kf
--@thin 13477465836766734498
theorem nb {P : Prop} {a b : Bool} (h : a = b) (n : (a == b) = false := by rfl) : P := by
  subst h
  rw [beq_self_eq_true] at n
  cases n
def wh : V → Bool
  | .int _ => true
  | _ => false
def Kd (H : Hp) : V → Prop
  | .int _ => True
  | .bl _ => True
  | .non => True
  | .str _ => True
  | .ref p => ∃ u t, H p = some u ∧ tyHO u = some t ∧ tyB t "int" = some false
  | _ => False
theorem Kd.up {H H' : Hp} (s : Same H H') : ∀ {v : V}, Kd H v → Kd H' v
  | .int _, h => h
  | .bl _, h => h
  | .non, h => h
  | .str _, h => h
  | .ref p, ⟨u, t, h1, h2⟩ => ⟨u, t, s _ _ h1, h2⟩
  | .flt _, h => h.elim
  | .byt _, h => h.elim
  | .ty _, h => h.elim
def ExN (K : PySem.W.Frag) (x : Str) (E : XK) (H : Hp) : Prop := ∀ C, PySem.W.nsIn K mainGlobals x = some (some (.ref C)) → E (.ref C) none H
def sp_is_whole (K : PySem.W.Frag) (ns : List Int) : Sp := fun vs H Q _ => match vs with
  | [v] => Kd H v ∧ Q (.bl (wh v)) H
  | _ => False
theorem sc_is_whole : FnScope ["thing"] ["thing"] (defScope s_is_whole) := ⟨rfl, rfl, rfl, by decide +kernel, rfl, by decide +kernel, by decide +kernel⟩
theorem ok_is_whole (d : Dfn K mg "is_whole" s_is_whole ["thing"]) (er : Errs K mg c_LadderError c_NoBook c_NoFit c_NoGame c_NoNumber c_NoPlayer c_NoRow c_NoStretch c_NoTable c_NoTree c_NoWorth) (n_isinstance : mg "isinstance" = none) (n_bool : mg "bool" = none) (n_int : mg "int" = none)   : Cal P w K mg base "is_whole" ["thing"] 1 (sp_is_whole K ns) := by
  refine d.cal (k := 0) sc_is_whole (fun vs H Q E h => ?_) (fun f cdv A outer s H vs Q E hr h => ?_)
  · match vs, h with
    | [_], _ => rfl
  · refine ⟨_, (@pss_one _ _ _ (@ps_ret _ _ _ _ (@e_and _ _ _ _ _ _ _ (@pe_callB _ _ _ _ _ _ _ _ _ c_isi (by rfl) n_isinstance (by decide +kernel) (@pa_cons _ _ _ _ _ (dv 0) (@pa_cons _ _ _ _ _ (e_ty "int" (by rfl) n_int (by decide +kernel)) pa_nil (by rfl)) (by rfl)) (by decide) (by decide) (by rfl) (by rfl)) (@pe_one _ _ _ _ _ (@e_not _ _ _ _ (@pe_callB _ _ _ _ _ _ _ _ _ c_isi (by rfl) n_isinstance (by decide +kernel) (@pa_cons _ _ _ _ _ (dv 0) (@pa_cons _ _ _ _ _ (e_ty "bool" (by rfl) n_bool (by decide +kernel)) pa_nil (by rfl)) (by rfl)) (by decide) (by decide) (by rfl) (by rfl))))))), ?_⟩
    match vs, h with
    | [.int _], ⟨_, q⟩ => exact ⟨true, rfl, fun _ => ⟨false, rfl, q⟩, fun h => absurd h (by decide)⟩
    | [.bl _], ⟨_, q⟩ => exact ⟨true, rfl, fun _ => ⟨true, rfl, q⟩, fun h => absurd h (by decide)⟩
    | [.non], ⟨_, q⟩ => exact ⟨false, rfl, fun h => absurd h (by decide), fun _ => q⟩
    | [.str _], ⟨_, q⟩ => exact ⟨false, rfl, fun h => absurd h (by decide), fun _ => q⟩
    | [.ref _], ⟨⟨u, t, h1, h2, h3⟩, q⟩ => exact ⟨u, false, t, h1, h2, h3, fun h => absurd h (by decide), fun _ => q⟩
    | [.flt _], ⟨z, _⟩ => exact z.elim
    | [.byt _], ⟨z, _⟩ => exact z.elim
    | [.ty _], ⟨z, _⟩ => exact z.elim
def Cgt (K : PySem.W.Frag) (x : Str) (H : Hp) (p : Addr) : Prop := ∃ C, PySem.W.nsIn K mainGlobals x = some (some (.ref C)) ∧ H p = some (.ext (ExcAt p C))
theorem ns_inj {K : PySem.W.Frag} {x : Str} {C D : Addr} (h : PySem.W.nsIn K mainGlobals x = some (some (.ref C))) (h' : PySem.W.nsIn K mainGlobals x = some (some (.ref D))) : C = D := by
  rw [h] at h'
  cases h'
  rfl
def SM (K : PySem.W.Frag) (x : Str) (H : Hp) (vs : List V) (n : Nat) : L2.St → Hp → Prop := fun σ H' => ∃ p, σ = vs.map some ++ some (.ref p) :: List.replicate n none ∧ Cgt K x H' p ∧ Same H H'
def btw (v : V) (lo hi : Int) : Bool := match v with
  | .int i => decide (lo ≤ i) && decide (i ≤ hi)
  | _ => false
theorem ty_str {u : HO} {t : String} (h : tyHO u = some t) : tyB t "str" = some false := by
  cases u with
  | lst _ => cases h; rfl
  | tup _ => cases h; rfl
  | dK _ => cases h; rfl
  | dT _ => cases h; rfl
  | frz o u =>
    cases u with
    | lst _ => cases h; rfl
    | _ => cases h
  | _ => cases h
def isNmS (x : Str) : Bool := decide (1 ≤ x.length) && decide (x.length ≤ 8) && (co x).all fun c => decide (c ∈ co abc)
def isNm : V → Bool
  | .str x => isNmS x
  | _ => false
theorem abc_mem {c : Nat} : c ∈ co abc ↔ 97 ≤ c ∧ c < 123 := by
  have e : co abc = (List.range 26).map fun j => 97 + j := by decide +kernel
  rw [e, List.mem_map]
  constructor
  · rintro ⟨j, hj, rfl⟩
    have := List.mem_range.mp hj
    omega
  · intro h
    exact ⟨c - 97, List.mem_range.mpr (by omega), by omega⟩
theorem _root_.Lw.Nm.is {x : Str} (h : Nm x) : isNmS x = true := by
  unfold isNmS
  have l := co_len x
  have h1 := h.len1
  have h8 := h.len8
  rw [Bool.and_eq_true, Bool.and_eq_true]
  refine ⟨⟨decide_eq_true (by omega), decide_eq_true (by omega)⟩, List.all_eq_true.mpr fun c hc => decide_eq_true (abc_mem.mpr (h.abc c hc))⟩
def sp_is_name (K : PySem.W.Frag) (ns : List Int) : Sp := fun vs H Q _ => match vs with
  | [v] => Kd H v ∧ (∀ z, v = .str z → z.length ≤ 1000) ∧ ∀ H', Same H H' → Q (.bl (isNm v)) H'
  | _ => False
theorem sc_is_name : FnScope ["thing"] ["thing"] (defScope s_is_name) := ⟨rfl, rfl, rfl, by decide +kernel, rfl, by decide +kernel, by decide +kernel⟩
theorem ok_is_name (d : Dfn K mg "is_name" s_is_name ["thing"]) (er : Errs K mg c_LadderError c_NoBook c_NoFit c_NoGame c_NoNumber c_NoPlayer c_NoRow c_NoStretch c_NoTable c_NoTree c_NoWorth) (n_all : mg "all" = none) (n_len : mg "len" = none) (n_isinstance : mg "isinstance" = none) (n_str : mg "str" = none) (v_LETTERS : Cst mg "LETTERS" (.str "abcdefghijklmnopqrstuvwxyz")) (v_LONGEST_NAME : Cst mg "LONGEST_NAME" (.int (8)))  : Cal P w K mg base "is_name" ["thing"] 1 (sp_is_name K ns) := by
  refine d.cal (k := 0) sc_is_name (fun vs H Q E h => ?_) (fun f cdv A outer s H vs Q E hr h => ?_)
  · match vs, h with
    | [_], _ => rfl
  · refine ⟨_, (@pss_cons _ _ _ _ _ (@s_if _ _ _ _ _ _ _ _ (@L2.PW.pt _ _ _ (@w_or _ _ _ _ _ _ _ (@pt_not _ _ _ _ (@t_val _ _ _ (@pe_callB _ _ _ _ _ _ _ _ _ c_isi (by rfl) n_isinstance (by decide +kernel) (@pa_cons _ _ _ _ _ (dv 0) (@pa_cons _ _ _ _ _ (e_ty "str" (by rfl) n_str (by decide +kernel)) pa_nil (by rfl)) (by rfl)) (by decide) (by decide) (by rfl) (by rfl)) (by intro _; rfl))) (@pw_or1 _ _ _ _ (@pt_not _ _ _ _ (@t_chain _ _ _ _ _ _ _ _ _ _ _ _ o_le o_le pe_int (@pe_callB _ _ _ _ _ _ _ _ _ c_len (by rfl) n_len (by decide +kernel) (@pa_cons _ _ _ _ _ (dv 0) pa_nil (by rfl)) (by decide) (by decide) (by rfl) (by rfl)) (g_cst v_LONGEST_NAME (by rfl)) (by with_unfolding_all rfl)))))) (@pss_one _ _ _ (@ps_ret _ _ _ _ pe_bl)) pss_nil) (@pss_one _ _ _ (@ps_ret _ _ _ _ (@pe_callB _ _ _ _ _ _ _ _ _ (@c_all _ rfl) (by rfl) n_all (by decide +kernel) (@pa_cons _ _ _ _ _ (@e_compN _ _ _ _ _ _ _ _ _ _ ["sign"] [] [] rfl (@pi_str _ _ _ _ (dv 0)) (fun C s H fp => (@pg_name _ _ (0) _ (show List.Nodup [("sign" : Str)] by decide +kernel) rfl (by first | exact Or.inl rfl | exact Or.inr rfl) (by first | exact .inl rfl | exact .inr rfl | assumption))) (fun C s H fp => (@pe_cmpR _ _ _ _ _ _ _ _ o_in1 (dv 0) (g_cst v_LETTERS (by rfl)) (by with_unfolding_all rfl))) rfl rfl (by decide +kernel) (by decide +kernel) (by rfl) True.intro True.intro (by intro _; rfl)) pa_nil (by rfl)) (by decide) (by decide) (by rfl) (by rfl))))), ?_⟩
    match vs, h with
    | [.int _], ⟨_, _, q⟩ => exact ⟨false, rfl, ⟨fun _ => ⟨fun _ => q _ (Same.refl _), fun h => nb h⟩, fun h => nb h⟩⟩
    | [.bl _], ⟨_, _, q⟩ => exact ⟨false, rfl, ⟨fun _ => ⟨fun _ => q _ (Same.refl _), fun h => nb h⟩, fun h => nb h⟩⟩
    | [.non], ⟨_, _, q⟩ => exact ⟨false, rfl, ⟨fun _ => ⟨fun _ => q _ (Same.refl _), fun h => nb h⟩, fun h => nb h⟩⟩
    | [.ref _], ⟨⟨u, t, h1, h2, h3⟩, _, q⟩ => exact ⟨u, false, t, h1, h2, ty_str h2, ⟨fun _ => ⟨fun _ => q _ (Same.refl _), fun h => nb h⟩, fun h => nb h⟩⟩
    | [.flt _], ⟨z, _⟩ => exact z.elim
    | [.byt _], ⟨z, _⟩ => exact z.elim
    | [.ty _], ⟨z, _⟩ => exact z.elim
    | [.str x], ⟨_, hz, q⟩ =>
      have hz := hz x rfl
      refine ⟨true, rfl, ⟨fun h => nb h, fun _ => ⟨Nat.le_trans hz (by decide), ⟨fun h1 => ⟨fun h2 => ?_, fun h2 => ?_⟩, fun h1 => ?_⟩⟩⟩⟩
      · have h2 : ¬ (x.length : Int) ≤ 8 := by simpa using h2
        have e : isNm (.str x) = false := by
          show isNmS x = false
          unfold isNmS
          rw [decide_eq_false (show ¬ x.length ≤ 8 by omega), Bool.and_false, Bool.false_and]
        have q := q _ (Same.refl _)
        rw [e] at q
        exact q
      · have h2 : (x.length : Int) ≤ 8 := by simpa using h2
        show CGoal (Its x) _ _ _ _ _ _ _
        refine comp_str (fun c => .bl (decide (c ∈ co abc))) hz (fun c H2 hc s2 P hP => ⟨rfl, c, rfl, hP⟩) fun D H2 s2 e2 => ⟨(co x).map fun c => decide (c ∈ co abc), SqL.of (by rw [e2, List.map_map]; rfl), ?_⟩
        have e : isNm (.str x) = ((co x).map fun c => decide (c ∈ co abc)).all id := by
          have h1 : (1 : Int) ≤ x.length := of_decide_eq_true h1
          show isNmS x = _
          unfold isNmS
          rw [decide_eq_true (show 1 ≤ x.length by omega), decide_eq_true (show x.length ≤ 8 by omega), List.all_map]
          rfl
        rw [← e]
        exact q H2 s2
      · refine ⟨fun _ => ?_, fun h => nb h⟩
        have e : isNm (.str x) = false := by
          have h1 : ¬ (1 : Int) ≤ x.length := of_decide_eq_false h1
          show isNmS x = false
          unfold isNmS
          rw [decide_eq_false (show ¬ 1 ≤ x.length by omega), Bool.false_and, Bool.false_and]
        have q := q _ (Same.refl _)
        rw [e] at q
        exact q
def eqS : V → V → Bool
  | .str a, .str b => decide (a = b)
  | _, _ => false
def goodG (d x y h s : V) : Bool := btw d 0 9999 && isNm x && isNm y && !eqS x y && btw h 0 2 && btw s (-1) 1
def SL (v : V) : Prop := ∀ z, v = .str z → z.length ≤ 1000
theorem none_back {H H' : Hp} {D : Addr} (s : Same H H') (h : H' D = none) : H D = none := by
  cases e : H D with
  | none => rfl
  | some o =>
    rw [s _ _ e] at h
    cases h
inductive Tr where
  | leaf (s : Str)
  | node (l r : Tr)
def TrAt (H : Hp) : Tr → V → Prop
  | .leaf s, v => v = .str s
  | .node l r, v => ∃ p a b, v = .ref p ∧ H p = some (.tup [a, b]) ∧ TrAt H l a ∧ TrAt H r b
def lv : Tr → List Str
  | .leaf s => [s]
  | .node l r => lv l ++ lv r
def sz : Tr → Nat
  | .leaf _ => 1
  | .node l r => sz l + sz r + 1
def td : Tr → PyData
  | .leaf s => .str s
  | .node l r => .tuple [td l, td r]
theorem tr_up {H H' : Hp} (k : Kt H H') : ∀ (t : Tr) (v : V), TrAt H t v → TrAt H' t v
  | .leaf _, _, h => h
  | .node l r, v, ⟨p, a, b, e, h, h1, h2⟩ => ⟨p, a, b, e, k _ _ h, tr_up k l a h1, tr_up k r b h2⟩
theorem lv_pos : ∀ t, 0 < (lv t).length
  | .leaf _ => Nat.one_pos
  | .node l r => by
    have := lv_pos l
    show 0 < (lv l ++ lv r).length
    rw [List.length_append]
    omega
theorem rp_tr {K : PySem.W.Frag} {H : Hp} : ∀ (t : Tr) (v : V), TrAt H t v → Rp K H v (td t)
  | .leaf s, v, h => by
    have h : v = .str s := h
    subst h
    exact .str s
  | .node l r, v, ⟨p, a, b, e, h, h1, h2⟩ => by
    subst e
    exact .tup (SqT.of h) (.cons (rp_tr l a h1) (.cons (rp_tr r b h2) .nil))
theorem td_depth : ∀ t, (td t).depth < (lv t).length
  | .leaf _ => Nat.one_pos
  | .node l r => by
    have a := td_depth l
    have b := td_depth r
    show max (td l).depth (max (td r).depth 0) + 1 < (lv l ++ lv r).length
    rw [List.length_append]
    omega
theorem td_lay : ∀ t, (∀ x ∈ lv t, PyData.strOk x = true) → (td t).canLay0 = true
  | .leaf s, h => h s (List.mem_singleton.mpr rfl)
  | .node l r, h => by
    show ((td l).canLay0 && ((td r).canLay0 && true)) = true
    rw [td_lay l fun x hx => h x (List.mem_append_left _ hx), td_lay r fun x hx => h x (List.mem_append_right _ hx)]
    rfl
structure TOk (t : Tr) : Prop where
  nd : (lv t).Nodup
  len : (lv t).length ≤ 8
  nm : ∀ x ∈ lv t, Nm x
theorem nm_ok {x : Str} (h : Nm x) : PyData.strOk x = true := ok_of fun c hc => by
  have := h.abc c hc
  omega
theorem TOk.left {l r : Tr} (h : TOk (.node l r)) : TOk l := by
  have nd : (lv l ++ lv r).Nodup := h.nd
  have len : (lv l ++ lv r).length ≤ 8 := h.len
  rw [List.length_append] at len
  exact ⟨(List.nodup_append.mp nd).1, by omega, fun x hx => h.nm x (List.mem_append_left _ hx)⟩
theorem TOk.right {l r : Tr} (h : TOk (.node l r)) : TOk r := by
  have nd : (lv l ++ lv r).Nodup := h.nd
  have len : (lv l ++ lv r).length ≤ 8 := h.len
  rw [List.length_append] at len
  exact ⟨(List.nodup_append.mp nd).2.1, by omega, fun x hx => h.nm x (List.mem_append_right _ hx)⟩
theorem nil_or_snoc {α : Type} (l : List α) : l = [] ∨ ∃ m a, l = m ++ [a] := by
  rcases List.eq_nil_or_concat l with h | ⟨m, a, h⟩
  · exact .inl h
  · exact .inr ⟨m, a, by rw [h, List.concat_eq_append]⟩
theorem a2_unsnoc {α β : Type} {R : α → β → Prop} : ∀ {l : List α} {m : List β} {b : β}, All2 R l (m ++ [b]) → ∃ l' a, l = l' ++ [a] ∧ All2 R l' m ∧ R a b
  | _, [], b, h => by
    cases h with
    | cons x r =>
      cases r
      exact ⟨[], _, rfl, .nil, x⟩
  | _, c :: m, b, h => by
    cases h with
    | cons x r =>
      obtain ⟨l', a, rfl, h1, h2⟩ := a2_unsnoc r
      exact ⟨_ :: l', a, rfl, .cons x h1, h2⟩
theorem eqv_nil {l : List PyData} (h : l ≠ []) : PyData.eqv (.list l) (.list []) = false := by
  cases l with
  | nil => exact absurd rfl h
  | cons x r => rfl
theorem in_strs {n : Str} {l : List Str} : inV (.str n) (l.map V.str) = decide (n ∈ l) := by
  unfold inV
  rw [List.any_map]
  by_cases h : n ∈ l
  · rw [decide_eq_true h, List.any_eq_true]
    exact ⟨n, h, by show (n == n) = true; simp⟩
  · rw [decide_eq_false h, List.any_eq_false]
    intro x hx e
    have e : (x == n) = true := e
    exact h (eq_of_beq e ▸ hx)
theorem flat_strs (l : List Str) : (l.map V.str).all flatV = true := by
  rw [List.all_map]
  exact List.all_eq_true.mpr fun _ _ => rfl
def hd (ts : List Tr) : List Str := (ts.reverse.map lv).flatten
inductive Th where
  | lf (v : V) (d : PyData)
  | nd (l r : Th)
def NT (H : Hp) : V → Prop
  | .int _ => True
  | .bl _ => True
  | .non => True
  | .str _ => True
  | .ref p => ∃ u t, H p = some u ∧ tyHO u = some t ∧ tyB t "tuple" = some false ∧ tyB t "int" = some false
  | _ => False
theorem NT.up {H H' : Hp} (s : Same H H') : ∀ {v : V}, NT H v → NT H' v
  | .int _, h => h
  | .bl _, h => h
  | .non, h => h
  | .str _, h => h
  | .ref p, ⟨u, t, h1, h2⟩ => ⟨u, t, s _ _ h1, h2⟩
  | .flt _, h => h.elim
  | .byt _, h => h.elim
  | .ty _, h => h.elim
def PrAt (H : Hp) (v : V) (b : Bool) : Prop := (∃ t xs, v = .ref t ∧ H t = some (.tup xs) ∧ xs.length ≤ 100 ∧ b = decide ((xs.length : Int) = 2)) ∨ (NT H v ∧ b = false)
theorem PrAt.up {H H' : Hp} {v : V} {b : Bool} (s : Same H H') (h : PrAt H v b) : PrAt H' v b := by
  rcases h with ⟨t, xs, a, e, z⟩ | ⟨a, e⟩
  · exact .inl ⟨t, xs, a, s _ _ e, z⟩
  · exact .inr ⟨a.up s, e⟩
structure LfOk (K : PySem.W.Frag) (H : Hp) (v : V) (d : PyData) : Prop where
  kd : Kd H v
  np : PrAt H v false
  sl : ∀ z, v = .str z → z.length ≤ 1000
  rp : Rp K H v d
  cl : d.canLay0 = true
  dp : d.depth ≤ 2
theorem LfOk.up {K : PySem.W.Frag} {H H' : Hp} {v : V} {d : PyData} (s : Same H H') (h : LfOk K H v d) : LfOk K H' v d := ⟨h.kd.up s, h.np.up s, h.sl, h.rp.up s, h.cl, h.dp⟩
def ThAt (K : PySem.W.Frag) (H : Hp) : Th → V → Prop
  | .lf u d, v => v = u ∧ LfOk K H v d
  | .nd l r, v => ∃ p a b, v = .ref p ∧ H p = some (.tup [a, b]) ∧ ThAt K H l a ∧ ThAt K H r b
theorem th_up {K : PySem.W.Frag} {H H' : Hp} (s : Same H H') : ∀ (t : Th) (v : V), ThAt K H t v → ThAt K H' t v
  | .lf _ _, _, h => ⟨h.1, h.2.up s⟩
  | .nd l r, v, ⟨p, a, b, e, h, h1, h2⟩ => ⟨p, a, b, e, s _ _ h, th_up s l a h1, th_up s r b h2⟩
def lvT : Th → List V
  | .lf v _ => [v]
  | .nd l r => lvT l ++ lvT r
def szT : Th → Nat
  | .lf _ _ => 1
  | .nd l r => szT l + szT r + 1
def dtT : Th → PyData
  | .lf _ d => d
  | .nd l r => .tuple [dtT l, dtT r]
theorem lvT_pos : ∀ t, 0 < (lvT t).length
  | .lf _ _ => Nat.one_pos
  | .nd l r => by
    have := lvT_pos l
    show 0 < (lvT l ++ lvT r).length
    rw [List.length_append]
    omega
theorem th_rp {K : PySem.W.Frag} {H : Hp} : ∀ (t : Th) (v : V), ThAt K H t v → Rp K H v (dtT t) ∧ (dtT t).canLay0 = true ∧ (dtT t).depth ≤ (lvT t).length + 1
  | .lf u d, v, h => ⟨h.2.rp, h.2.cl, h.2.dp⟩
  | .nd l r, v, ⟨p, a, b, e, h, h1, h2⟩ => by
    subst e
    obtain ⟨a1, a2, a3⟩ := th_rp l a h1
    obtain ⟨b1, b2, b3⟩ := th_rp r b h2
    have pl := lvT_pos l
    have pr := lvT_pos r
    refine ⟨.tup (SqT.of h) (.cons a1 (.cons b1 .nil)), ?_, ?_⟩
    · show ((dtT l).canLay0 && ((dtT r).canLay0 && true)) = true
      rw [a2, b2]
      rfl
    · show max (dtT l).depth (max (dtT r).depth 0) + 1 ≤ (lvT l ++ lvT r).length + 1
      rw [List.length_append]
      omega
theorem rpl_th {K : PySem.W.Frag} {H : Hp} {n : Nat} : ∀ {vs : List V} {ts : List Th}, All2 (fun v t => ThAt K H t v) vs ts → (∀ t ∈ ts, (lvT t).length ≤ n) → RpL K H vs (ts.map dtT) ∧ PyData.canLayAll0 (ts.map dtT) = true ∧ PyData.depthAll (ts.map dtT) ≤ n + 1
  | _, _, .nil, _ => ⟨.nil, rfl, Nat.zero_le _⟩
  | _, _, .cons (a := v) (b := t) (l := vs) (m := ts) h r, hn => by
    obtain ⟨i1, i2, i3⟩ := rpl_th r fun t ht => hn t (List.mem_cons_of_mem _ ht)
    obtain ⟨h1, h2, h3⟩ := th_rp t v h
    have := hn t List.mem_cons_self
    refine ⟨.cons h1 i1, ?_, ?_⟩
    · show ((dtT t).canLay0 && PyData.canLayAll0 (ts.map dtT)) = true
      rw [h2, i2]
      rfl
    · show max (dtT t).depth (PyData.depthAll (ts.map dtT)) ≤ n + 1
      omega
theorem sh_th {l : List PyData} {n : Nat} (h : PyData.canLayAll0 l = true) (h' : PyData.depthAll l ≤ n + 1) (hn : n ≤ 50) : SeqAt.shaped (.list l) = true := by
  unfold SeqAt.shaped
  rw [show (PyData.list l).canLay0 = true from h, show (PyData.list l).depth = PyData.depthAll l + 1 from rfl, Bool.true_and]
  exact decide_eq_true (by omega)
def run : List V → List Str → Option (List Str)
  | [], ns => some ns
  | v :: vs, ns => if isNm v && (match v with | .str s => decide (s ∉ ns) | _ => false) && decide (ns.length < 8) then run vs (match v with | .str s => ns ++ [s] | _ => ns) else none
theorem run_no {y : V} {vs : List V} {ns : List Str} (h : isNm y = false) : run (y :: vs) ns = none := by
  unfold run
  rw [h]
  rfl
theorem run_in {x : Str} {vs : List V} {ns : List Str} (h : x ∈ ns) : run (.str x :: vs) ns = none := by
  unfold run
  rw [if_neg]
  simp [h]
theorem run_8 {x : Str} {vs : List V} {ns : List Str} (h : ¬ ns.length < 8) : run (.str x :: vs) ns = none := by
  unfold run
  rw [if_neg]
  simp [h]
theorem run_ok {x : Str} {vs : List V} {ns : List Str} (h : isNm (.str x) = true) (h' : x ∉ ns) (h8 : ns.length < 8) : run (.str x :: vs) ns = run vs (ns ++ [x]) := by
  conv => lhs; unfold run
  rw [if_pos]
  simp [h, h', h8]
theorem nm_str : ∀ {y : V}, isNm y = true → ∃ x, y = .str x
  | .str x, _ => ⟨x, rfl⟩
  | .int _, h => by cases h
  | .bl _, h => by cases h
  | .non, h => by cases h
  | .ref _, h => by cases h
  | .flt _, h => by cases h
  | .byt _, h => by cases h
  | .ty _, h => by cases h
theorem ask_no {K : PySem.W.Frag} {H : Hp} {y : V} {a b c : Option V} {P : Bool → Hp → Prop} (h : PrAt H y false) (q : P false H) :
    dAnd (dTest (tCB dIsi (tCons (dVar 3) (tCons (tC (.ty "tuple")) tNil)))) (dTest (tOp dEq (tCB (dLen K) (tCons (dVar 3) tNil)) (tC (.int 2)))) [a, b, c, some y] H P := by
  rcases h with ⟨t, xs, rfl, e, hl, hb⟩ | ⟨nt, _⟩
  · refine ⟨_, true, "tuple", e, rfl, rfl, ⟨fun _ => ⟨_, .inr (SqT.of e), ?_⟩, fun h => nb h⟩⟩
    show P (decide ((xs.length : Int) = 2)) H
    rw [← hb]
    exact q
  · cases y with
    | int _ => exact ⟨false, rfl, ⟨fun h => nb h, fun _ => q⟩⟩
    | bl _ => exact ⟨false, rfl, ⟨fun h => nb h, fun _ => q⟩⟩
    | non => exact ⟨false, rfl, ⟨fun h => nb h, fun _ => q⟩⟩
    | str _ => exact ⟨false, rfl, ⟨fun h => nb h, fun _ => q⟩⟩
    | ref p =>
      obtain ⟨u, t, h1, h2, h3, _⟩ := nt
      exact ⟨u, false, t, h1, h2, h3, ⟨fun h => nb h, fun _ => q⟩⟩
    | flt _ => exact nt.elim
    | byt _ => exact nt.elim
    | ty _ => exact nt.elim
def hdT (ts : List Th) : List V := (ts.reverse.map lvT).flatten
theorem hdT_snoc (ts : List Th) (t : Th) : hdT (ts ++ [t]) = lvT t ++ hdT ts := by
  unfold hdT
  rw [List.reverse_append]
  rfl
theorem hdT_len (ts : List Th) : ts.length ≤ (hdT ts).length := by
  have h : ∀ l : List Th, l.length ≤ ((l.map lvT).flatten).length := fun l => by
    induction l with
    | nil => exact Nat.zero_le _
    | cons t l ih =>
      have p := lvT_pos t
      rw [List.map_cons, List.flatten_cons, List.length_append, List.length_cons]
      omega
  have := h ts.reverse
  rw [List.length_reverse] at this
  exact this
theorem hdT_len1 {ts : List Th} {t : Th} (h : t ∈ ts) : (lvT t).length ≤ (hdT ts).length := by
  obtain ⟨a, b, rfl⟩ := List.append_of_mem h
  unfold hdT
  simp
  omega
def sp_leaves (K : PySem.W.Frag) (ns : List Int) : Sp := fun vs H Q E => match vs with
  | [v] => ∃ t, (ThAt K H t v ∧ (lvT t).length ≤ 40) ∧ (run (lvT t) [] = none → ∀ H', Same H H' → ExN K "NoTree" E H') ∧ (∀ l, run (lvT t) [] = some l → ∀ D H', Same H H' → H D = none → H' D = some (.lst (l.map V.str)) → Q (.ref D) H')
  | _ => False
theorem sc_leaves : FnScope ["tree", "names", "ahead", "part"] ["tree"] (defScope s_leaves) := ⟨rfl, rfl, rfl, by decide +kernel, rfl, by decide +kernel, by decide +kernel⟩
theorem ok_leaves (d : Dfn K mg "leaves" s_leaves ["tree"]) (er : Errs K mg c_LadderError c_NoBook c_NoFit c_NoGame c_NoNumber c_NoPlayer c_NoRow c_NoStretch c_NoTable c_NoTree c_NoWorth) (n_len : mg "len" = none) (n_isinstance : mg "isinstance" = none) (n_tuple : mg "tuple" = none) (v_MOST_NAMES : Cst mg "MOST_NAMES" (.int (8))) (c_is_name : Cal P w K mg base "is_name" ["thing"] 1 (sp_is_name K ns)) : Cal P w K mg base "leaves" ["tree"] 2 (sp_leaves K ns) := by
  refine d.calX (k := 1) sc_leaves (fun vs H Q E h => ?_) (fun f cdv A outer s H vs Q E hr h => ?_)
  · match vs, h with
    | [v], _ => rfl
  · match vs, h with
    | [v], ⟨t0, ⟨hT, l40⟩, ex, k⟩ =>
      refine ⟨_, (@pss_cons _ _ _ _ _ (@ps_set _ _ (1) _ _ _ _ sc_leaves.nd rfl (by first | exact Or.inl rfl | exact Or.inr rfl) (@pe_lst _ _ _ _ pa_nil) (by rfl) (by first | exact .inl rfl | exact .inr rfl | assumption)) (@pss_cons _ _ _ _ _ (@ps_set _ _ (2) _ _ _ _ sc_leaves.nd rfl (by first | exact Or.inl rfl | exact Or.inr rfl) (@pe_lst _ _ _ _ (@pa_cons _ _ _ _ _ (dv 0) pa_nil (by rfl))) (by rfl) (by first | exact .inl rfl | exact .inr rfl | assumption)) (@pss_cons _ _ _ _ _ (@s_while _ _ _ _ _ _ PassesOwn.leaving (@t_cmp _ _ _ _ _ _ _ _ (@o_neD _ hr.units) (dv 2) (@pe_lst _ _ _ _ pa_nil) (@nomark _ _ (by decide) (by decide))) (@pss_cons _ _ _ _ _ (@ps_set _ _ (3) _ _ _ _ sc_leaves.nd rfl (by first | exact Or.inl rfl | exact Or.inr rfl) (@pe_bm0 _ _ _ _ _ _ _ _ _ PySem.F.plainAttrs_list PySem.F.slot_list_pop PySem.F.type_list_pop mt_pop (dv 2) (by rfl) (by rfl)) (by rfl) (by first | exact .inl rfl | exact .inr rfl | assumption)) (@pss_one _ _ _ (@s_if _ _ _ _ _ _ _ _ (@L2.PW.pt _ _ _ (@w_and _ _ _ _ _ _ _ (@t_val _ _ _ (@pe_callB _ _ _ _ _ _ _ _ _ c_isi (by rfl) n_isinstance (by decide +kernel) (@pa_cons _ _ _ _ _ (dv 3) (@pa_cons _ _ _ _ _ (e_ty "tuple" (by rfl) n_tuple (by decide +kernel)) pa_nil (by rfl)) (by rfl)) (by decide) (by decide) (by rfl) (by rfl)) (by intro _; rfl)) (@pw_and1 _ _ _ _ (@t_cmp _ _ _ _ _ _ _ _ o_eq (@pe_callB _ _ _ _ _ _ _ _ _ c_len (by rfl) n_len (by decide +kernel) (@pa_cons _ _ _ _ _ (dv 3) pa_nil (by rfl)) (by decide) (by decide) (by rfl) (by rfl)) pe_int (@nomark _ _ (by decide) (by decide)))))) (@pss_one _ _ _ (@ps_expr _ _ _ _ (@pe_bm _ _ _ _ _ _ _ _ _ _ _ _ PySem.F.plainAttrs_list PySem.F.slot_list_extend PySem.F.type_list_extend mt_extend (dv 2) (@pa_cons _ _ _ _ _ (@e_lst _ _ _ _ (@pa_cons _ _ _ _ _ (@pe_ix _ _ _ _ _ _ _ i_tup (dv 3) pe_int (fun _ _ => rfl)) (@pa_cons _ _ _ _ _ (@pe_ix _ _ _ _ _ _ _ i_tup (dv 3) pe_int (fun _ _ => rfl)) pa_nil (by rfl)) (by rfl))) pa_nil (by rfl)) (by rfl) (by rfl) (by rfl) (by rfl) (by rfl)) (by rfl))) (@pss_one _ _ _ (@s_if _ _ _ _ _ _ _ _ (@L2.PW.pt _ _ _ (@w_and _ _ _ _ _ _ _ (@t_val _ _ _ (@e_call _ _ _ _ _ _ _ _ _ _ _ c_is_name hr (by decide) (by rfl) (@pa_cons _ _ _ _ _ (dv 3) pa_nil (by rfl)) (by decide) (by rfl) (by rfl)) (by intro _; rfl)) (@w_and _ _ _ _ _ _ _ (@t_cmp _ _ _ _ _ _ _ _ (show OpR _ _ (dNotInS K) from o_notin) (dv 3) (dv 1) (by with_unfolding_all rfl)) (@pw_and1 _ _ _ _ (@t_cmp _ _ _ _ _ _ _ _ o_lt (@pe_callB _ _ _ _ _ _ _ _ _ c_len (by rfl) n_len (by decide +kernel) (@pa_cons _ _ _ _ _ (dv 1) pa_nil (by rfl)) (by decide) (by decide) (by rfl) (by rfl)) (g_cst v_MOST_NAMES (by rfl)) (@nomark _ _ (by decide) (by decide))))))) (@pss_one _ _ _ (@ps_expr _ _ _ _ (@pe_bm _ _ _ _ _ _ _ _ _ _ _ _ PySem.F.plainAttrs_list PySem.F.slot_list_append PySem.F.type_list_append mt_append (dv 1) (@pa_cons _ _ _ _ _ (dv 3) pa_nil (by rfl)) (by rfl) (by rfl) (by rfl) (by rfl) (by rfl)) (by rfl))) (@pss_one _ _ _ (@ps_raise _ _ _ _ _ _ _ _ _ _ _ _ _ _ _ _ _ _ _ _ _ _ _ er.b_NoTree er.x_NoTree (by rfl) (by decide))))))))) (@pss_one _ _ _ (@ps_ret _ _ _ _ (dv 1)))))), ?_⟩
      refine ⟨by decide, fun D hD => ⟨(by show 1 ≤ sizeLine; decide), fun A hA => ?_⟩⟩
      have s1 : Same H (upd H D (.lst [])) := same_upd hD
      have hA0 : H A = none := none_back s1 hA
      have s2 : Same H (upd (upd H D (.lst [])) A (.lst [v])) := s1.trans (same_upd hA)
      have ne : A ≠ D := fun z => by
        rw [z, upd_same] at hA
        cases hA
      have eD : upd (upd H D (.lst [])) A (.lst [v]) D = some (.lst (([] : List Str).map V.str)) := by
        rw [upd_ne (Ne.symm ne)]
        exact upd_same
      have eA : upd (upd H D (.lst [])) A (.lst [v]) A = some (.lst [v]) := upd_same
      generalize upd (upd H D (.lst [])) A (.lst [v]) = H2 at s2 eD eA
      refine ⟨fun m σ H' => ∃ (dn : List Str) (vs : List V) (ts : List Th) (o3 : Option V), σ = [some v, some (.ref D), some (.ref A), o3] ∧ Same H H' ∧ H' D = some (.lst (dn.map V.str)) ∧ H' A = some (.lst vs) ∧ All2 (fun v t => ThAt K H t v) vs ts ∧ (run (hdT ts) dn = run (lvT t0) [] ∧ dn.length + (hdT ts).length ≤ 40) ∧ m = (ts.map szT).sum, ⟨_, [], [v], [t0], none, rfl, s2, eD, eA, .cons hT .nil, ⟨by simp [hdT], by simpa [hdT] using l40⟩, rfl⟩, ?_⟩
      clear s1 hA s2 eD eA
      rintro m σ H3 ⟨dn, vs, ts, o3, rfl, s3, eD, eA, a3, ⟨ht, hl8⟩, rfl⟩
      refine ⟨by decide, fun P hP => ?_⟩
      have s4 : Same H3 (upd H3 P (.lst [])) := same_upd hP
      have eP : upd H3 P (.lst []) P = some (.lst []) := upd_same
      generalize upd H3 P (.lst []) = H4 at s4 eP
      have eD := s4 _ _ eD
      have eA := s4 _ _ eA
      have s3 := s3.trans s4
      have a4 : All2 (fun v t => ThAt K H4 t v) vs ts := a3.imp fun v t r => th_up s3 _ _ r
      clear s4 hP
      obtain ⟨r1, r2, r3⟩ := rpl_th (n := 40) a4 fun t h => Nat.le_trans (hdT_len1 h) (by omega)
      refine ⟨_, _, .lst (SqL.of eA) r1, .lst (SqL.of eP) .nil, sh_th r2 r3 (by decide), rfl, ⟨fun h => ?_, fun h => ?_⟩⟩
      rotate_left
      · have e0 : ts = [] := by
          cases ts with
          | nil => rfl
          | cons t ts => rw [show PyData.eqv (.list ((t :: ts).map dtT)) (.list []) = false from eqv_nil (by simp)] at h; cases h
        subst e0
        exact k dn ht.symm D H4 s3 hD eD
      rcases nil_or_snoc ts with rfl | ⟨ts', t, rfl⟩
      · exact absurd h (by decide)
      obtain ⟨vs', y, rfl, a', hy⟩ := a2_unsnoc a3
      have hl : vs'.length = ts'.length := a'.len
      have hl' := hdT_len (ts' ++ [t])
      rw [List.length_append, List.length_singleton] at hl'
      rw [hdT_snoc] at ht hl8
      refine ⟨.inl ⟨rfl, _, SqL.of eA⟩, A, _, y, rfl, rfl, eA, by simp, ?_⟩
      rw [show (vs' ++ [y]).dropLast = vs' from List.dropLast_concat]
      have s5 : Same H (upd H4 A (.lst vs')) := same_app' s3 hA0
      have eD5 : upd H4 A (.lst vs') D = some (.lst (dn.map V.str)) := by rw [upd_ne (Ne.symm ne)]; exact eD
      have eA5 : upd H4 A (.lst vs') A = some (.lst vs') := upd_same
      generalize upd H4 A (.lst vs') = H5 at s5 eD5 eA5
      clear eA eD eP a4 h r1 r2 r3 s3
      cases t with
      | nd l r =>
        obtain ⟨p, va, vb, rfl, ep, ra, rb⟩ := hy
        have ep := s5 _ _ ep
        refine ⟨_, true, "tuple", ep, rfl, rfl, ⟨fun _ => ⟨_, .inr (SqT.of ep), ⟨fun _ => ?_, fun h => absurd h (by simp)⟩⟩, fun h => nb h⟩⟩
        refine ⟨.inl ⟨rfl, _, SqL.of eA5⟩, _, ep, _, ep, fun B H6 s6 e6 => ⟨A, B, vs', [vb, va], rfl, rfl, s6 _ _ eA5, e6, ?_, ((ts' ++ [r, l]).map szT).sum, ?_, dn, vs' ++ [vb, va], ts' ++ [r, l], _, rfl, same_app' (s5.trans s6) hA0, ?_, upd_same, ?_, ?_, rfl⟩⟩
        · show vs'.length + 2 ≤ sizeLine
          have p1 := lvT_pos (.nd l r)
          rw [List.length_append] at hl8
          exact Nat.le_trans (show vs'.length + 2 ≤ 100 by have := hdT_len ts'; omega) (by decide)
        · simp [szT]
          omega
        · rw [upd_ne (Ne.symm ne)]
          exact s6 _ _ eD5
        · exact a'.app (.cons rb (.cons ra .nil))
        · rw [show ts' ++ [r, l] = (ts' ++ [r]) ++ [l] by simp, hdT_snoc, hdT_snoc, ← List.append_assoc (lvT l)]
          exact ⟨ht, hl8⟩
      | lf u d =>
        obtain ⟨e, lo⟩ := hy
        subst e
        have lo := lo.up s5
        refine ask_no lo.np ⟨fun h => nb h, fun _ => ?_⟩
        refine ⟨lo.kd, lo.sl, fun H6 s6 => ⟨fun hnm => ?_, fun hno => ⟨fun h => nb h, fun _ => ?_⟩⟩⟩
        rotate_left
        · refine ex ?_ _ (s5.trans s6) _ er.y_NoTree
          rw [← ht]
          exact run_no hno
        obtain ⟨x, rfl⟩ := nm_str hnm
        have eD6 := s6 _ _ eD5
        have eA6 := s6 _ _ eA5
        have s6 := s5.trans s6
        refine ⟨_, .inl (SqL.of eD6), rfl, flat_strs _, ⟨fun hn => ?_, fun hn => ⟨fun h => nb h, fun _ => ?_⟩⟩⟩
        rotate_left
        · refine ex ?_ _ s6 _ er.y_NoTree
          rw [← ht]
          rw [in_strs] at hn
          exact run_in (by simpa using hn)
        have nin : x ∉ dn := by
          rw [in_strs] at hn
          simpa using hn
        refine ⟨_, .inl (SqL.of eD6), ⟨fun hl => ?_, fun hl => ?_⟩⟩
        rotate_left
        · refine ex ?_ _ s6 _ er.y_NoTree
          rw [← ht]
          have hl := of_decide_eq_false hl
          rw [List.length_map] at hl
          exact run_8 (by omega)
        have dl : dn.length < 8 := by
          have hl := of_decide_eq_true hl
          rw [List.length_map] at hl
          omega
        refine ⟨.inl ⟨rfl, _, SqL.of eD6⟩, D, _, _, rfl, rfl, eD6, ?_, (ts'.map szT).sum, ?_, dn ++ [x], vs', ts', _, rfl, same_app' s6 hD, ?_, ?_, a', ⟨?_, ?_⟩, rfl⟩
        · rw [List.length_map]
          exact Nat.lt_of_lt_of_le dl (by decide)
        · simp [szT]
        · rw [upd_same, List.map_append]
          rfl
        · rw [upd_ne ne]
          exact eA6
        · rw [← ht]
          exact (run_ok hnm nin dl).symm
        · rw [List.length_append, List.length_singleton]
          rw [List.length_append, show (lvT (Th.lf (V.str x) d)).length = 1 from rfl] at hl8
          omega
def sp_greatest_divisor (K : PySem.W.Frag) (ns : List Int) : Sp := fun vs H Q _ => match vs with
  | [.int x, .int y] => Q (.int (Int.gcd x y : Int)) H
  | _ => False
theorem sc_greatest_divisor : FnScope ["one", "other", "rest"] ["one", "other"] (defScope s_greatest_divisor) := ⟨rfl, rfl, rfl, by decide +kernel, rfl, by decide +kernel, by decide +kernel⟩
theorem ok_greatest_divisor (d : Dfn K mg "greatest_divisor" s_greatest_divisor ["one", "other"]) (er : Errs K mg c_LadderError c_NoBook c_NoFit c_NoGame c_NoNumber c_NoPlayer c_NoRow c_NoStretch c_NoTable c_NoTree c_NoWorth) (n_abs : mg "abs" = none)   : Cal P w K mg base "greatest_divisor" ["one", "other"] 1 (sp_greatest_divisor K ns) := by
  refine d.cal (k := 0) sc_greatest_divisor (fun vs H Q E h => ?_) (fun f cdv A outer s H vs Q E hr h => ?_)
  · match vs, h with
    | [.int x, .int y], _ => rfl
  · match vs, h with
    | [.int x, .int y], q =>
      refine ⟨_, (@pss_cons _ _ _ _ _ (@s_while _ _ _ _ _ _ PassesOwn.never (@t_cmp _ _ _ _ _ _ _ _ o_ne (dv 1) pe_int (@nomark _ _ (by decide) (by decide))) (@pss_cons _ _ _ _ _ (@ps_set _ _ (2) _ _ _ _ sc_greatest_divisor.nd rfl (by first | exact Or.inl rfl | exact Or.inr rfl) (@pe_op _ _ _ _ _ _ _ _ o_modN (dv 0) (dv 1)) (by rfl) (by first | exact .inl rfl | exact .inr rfl | assumption)) (@pss_cons _ _ _ _ _ (@ps_set _ _ (0) _ _ _ _ sc_greatest_divisor.nd rfl (by first | exact Or.inl rfl | exact Or.inr rfl) (dv 1) (by rfl) (by first | exact .inl rfl | exact .inr rfl | assumption)) (@pss_one _ _ _ (@ps_set _ _ (1) _ _ _ _ sc_greatest_divisor.nd rfl (by first | exact Or.inl rfl | exact Or.inr rfl) (dv 2) (by rfl) (by first | exact .inl rfl | exact .inr rfl | assumption)))))) (@pss_one _ _ _ (@ps_ret _ _ _ _ (@pe_callB _ _ _ _ _ _ _ _ _ c_abs (by rfl) n_abs (by decide +kernel) (@pa_cons _ _ _ _ _ (dv 0) pa_nil (by rfl)) (by decide) (by decide) (by rfl) (by rfl))))), ?_⟩
      refine ⟨fun m σ H' => ∃ a b o, σ = [some (.int a), some (.int b), o] ∧ H' = H ∧ Int.gcd a b = Int.gcd x y ∧ m = b.natAbs, ⟨_, x, y, none, rfl, rfl, rfl, rfl⟩, ?_⟩
      rintro m σ H' ⟨a, b, o, rfl, rfl, g, rfl⟩
      refine ⟨fun h => ?_, fun h => ?_⟩
      · have hb : ¬ b = 0 := by simpa using h
        refine ⟨hb, ?_⟩
        exact ⟨(a.fmod b).natAbs, fmod_lt a hb, b, a.fmod b, _, rfl, rfl, by rw [gcd_fmod, g], rfl⟩
      · have hb : b = 0 := by simpa using h
        subst hb
        have e : (Int.gcd x y : Int) = (a.natAbs : Int) := by
          rw [← g, Int.gcd_zero_right]
        have q : Q (.int (Int.gcd x y : Int)) H' := q
        rw [e] at q
        exact q
def sp_fraction (K : PySem.W.Frag) (ns : List Int) : Sp := fun vs H Q _ => match vs with
  | [.int t, .int b] => (b ≠ 0 ∧ Bd 4000 b) ∧ ∀ p H', Same H H' → FrAt H' p t b → Q (.ref p) H'
  | _ => False
theorem sc_fraction : FnScope ["top", "bottom", "divisor"] ["top", "bottom"] (defScope s_fraction) := ⟨rfl, rfl, rfl, by decide +kernel, rfl, by decide +kernel, by decide +kernel⟩
theorem ok_fraction (d : Dfn K mg "fraction" s_fraction ["top", "bottom"]) (er : Errs K mg c_LadderError c_NoBook c_NoFit c_NoGame c_NoNumber c_NoPlayer c_NoRow c_NoStretch c_NoTable c_NoTree c_NoWorth)   (c_greatest_divisor : Cal P w K mg base "greatest_divisor" ["one", "other"] 1 (sp_greatest_divisor K ns)) (c_is_whole : Cal P w K mg base "is_whole" ["thing"] 1 (sp_is_whole K ns)) : Cal P w K mg base "fraction" ["top", "bottom"] 2 (sp_fraction K ns) := by
  refine d.cal (k := 1) sc_fraction (fun vs H Q E h => ?_) (fun f cdv A outer s H vs Q E hr h => ?_)
  · match vs, h with
    | [.int t, .int b], _ => rfl
  · match vs, h with
    | [.int t, .int b], ⟨⟨b0, b1⟩, q⟩ =>
      refine ⟨_, (@pss_cons _ _ _ _ _ (@s_if _ _ _ _ _ _ _ _ (@L2.PW.pt _ _ _ (@w_or _ _ _ _ _ _ _ (@pt_not _ _ _ _ (@t_val _ _ _ (@e_call _ _ _ _ _ _ _ _ _ _ _ c_is_whole hr (by decide) (by rfl) (@pa_cons _ _ _ _ _ (dv 0) pa_nil (by rfl)) (by decide) (by rfl) (by rfl)) (by intro _; rfl))) (@pw_or1 _ _ _ _ (@pt_not _ _ _ _ (@t_val _ _ _ (@e_call _ _ _ _ _ _ _ _ _ _ _ c_is_whole hr (by decide) (by rfl) (@pa_cons _ _ _ _ _ (dv 1) pa_nil (by rfl)) (by decide) (by rfl) (by rfl)) (by intro _; rfl)))))) (@pss_one _ _ _ ps_never) pss_nil) (@pss_cons _ _ _ _ _ (@s_if _ _ _ _ _ _ _ _ (@t_cmp _ _ _ _ _ _ _ _ o_eq (dv 1) pe_int (@nomark _ _ (by decide) (by decide))) (@pss_one _ _ _ ps_never) pss_nil) (@pss_cons _ _ _ _ _ (@ps_set _ _ (2) _ _ _ _ sc_fraction.nd rfl (by first | exact Or.inl rfl | exact Or.inr rfl) (@e_call _ _ _ _ _ _ _ _ _ _ _ c_greatest_divisor hr (by decide) (by rfl) (@pa_cons _ _ _ _ _ (dv 0) (@pa_cons _ _ _ _ _ (dv 1) pa_nil (by rfl)) (by rfl)) (by decide) (by rfl) (by rfl)) (by rfl) (by first | exact .inl rfl | exact .inr rfl | assumption)) (@pss_cons _ _ _ _ _ (@s_if _ _ _ _ _ _ _ _ (@t_cmp _ _ _ _ _ _ _ _ o_lt (dv 1) pe_int (@nomark _ _ (by decide) (by decide))) (@pss_one _ _ _ (@ps_set _ _ (2) _ _ _ _ sc_fraction.nd rfl (by first | exact Or.inl rfl | exact Or.inr rfl) (@pe_un _ _ _ _ _ _ u_neg (dv 2)) (by rfl) (by first | exact .inl rfl | exact .inr rfl | assumption))) pss_nil) (@pss_one _ _ _ (@ps_ret _ _ _ _ (@e_tup _ _ _ _ _ (@pa_cons _ _ _ _ _ (@pe_op _ _ _ _ _ _ _ _ o_divN (dv 0) (dv 2)) (@pa_cons _ _ _ _ _ (@pe_op _ _ _ _ _ _ _ _ o_divN (dv 1) (dv 2)) pa_nil (by rfl)) (by rfl))))))))), ?_⟩
      refine ⟨True.intro, ⟨fun h => nb h, fun _ => ⟨True.intro, ⟨fun h => nb h, fun _ => ?_⟩⟩⟩⟩
      refine ⟨fun h => absurd (of_decide_eq_true h) b0, fun _ => ?_⟩
      have d0 := dvs_ne t b0
      have d1 := bd_dvs t b0 b1
      have e1 := fdiv_T t b0
      have e2 := fdiv_B t b0
      refine ⟨fun h => ?_, fun h => ?_⟩
      · have h := of_decide_eq_true h
        have e : dvs t b = -(Int.gcd t b : Int) := if_pos h
        rw [e] at d0 d1 e1 e2
        refine ⟨⟨d0, d1⟩, ⟨⟨d0, d1⟩, fun p H' s z => q p H' s ⟨?_⟩⟩⟩
        dsimp only at z
        rw [e1, e2] at z
        exact z
      · have h := of_decide_eq_false h
        have e : dvs t b = (Int.gcd t b : Int) := if_neg h
        rw [e] at d0 d1 e1 e2
        refine ⟨⟨d0, d1⟩, ⟨⟨d0, d1⟩, fun p H' s z => q p H' s ⟨?_⟩⟩⟩
        dsimp only at z
        rw [e1, e2] at z
        exact z
def sp_plus (K : PySem.W.Frag) (ns : List Int) : Sp := fun vs H Q _ => match vs with
  | [.ref p, .ref q] => ∃ x y : Q2, (Fq 1000 H p x.1 x.2 ∧ Fq 1000 H q y.1 y.2) ∧ ∀ r H', Same H H' → FrAt H' r (x.1 * y.2 + y.1 * x.2) (x.2 * y.2) → Q (.ref r) H'
  | _ => False
theorem sc_plus : FnScope ["one", "other"] ["one", "other"] (defScope s_plus) := ⟨rfl, rfl, rfl, by decide +kernel, rfl, by decide +kernel, by decide +kernel⟩
theorem ok_plus (d : Dfn K mg "plus" s_plus ["one", "other"]) (er : Errs K mg c_LadderError c_NoBook c_NoFit c_NoGame c_NoNumber c_NoPlayer c_NoRow c_NoStretch c_NoTable c_NoTree c_NoWorth)   (c_fraction : Cal P w K mg base "fraction" ["top", "bottom"] 2 (sp_fraction K ns)) : Cal P w K mg base "plus" ["one", "other"] 3 (sp_plus K ns) := by
  refine d.cal (k := 2) sc_plus (fun vs H Q E h => ?_) (fun f cdv A outer s H vs Q E hr h => ?_)
  · match vs, h with
    | [.ref p, .ref q], _ => rfl
  · match vs, h with
    | [.ref p, .ref q], ⟨x, y, ⟨h1, h2⟩, k⟩ =>
      refine ⟨_, (@pss_one _ _ _ (@ps_ret _ _ _ _ (@e_call _ _ _ _ _ _ _ _ _ _ _ c_fraction hr (by decide) (by rfl) (@pa_cons _ _ _ _ _ (@pe_op _ _ _ _ _ _ _ _ o_add (@pe_op _ _ _ _ _ _ _ _ o_mul (@pe_ix _ _ _ _ _ _ _ i_tup (dv 0) pe_int (fun _ _ => rfl)) (@pe_ix _ _ _ _ _ _ _ i_tup (dv 1) pe_int (fun _ _ => rfl))) (@pe_op _ _ _ _ _ _ _ _ o_mul (@pe_ix _ _ _ _ _ _ _ i_tup (dv 1) pe_int (fun _ _ => rfl)) (@pe_ix _ _ _ _ _ _ _ i_tup (dv 0) pe_int (fun _ _ => rfl)))) (@pa_cons _ _ _ _ _ (@pe_op _ _ _ _ _ _ _ _ o_mul (@pe_ix _ _ _ _ _ _ _ i_tup (dv 0) pe_int (fun _ _ => rfl)) (@pe_ix _ _ _ _ _ _ _ i_tup (dv 1) pe_int (fun _ _ => rfl))) pa_nil (by rfl)) (by rfl)) (by decide) (by rfl) (by rfl)))), ?_⟩
      exact ⟨_, h1.at', _, h2.at', cok h1.ba h2.bb (by decide) (by decide), _, h2.at', _, h1.at', cok h2.ba h1.bb (by decide) (by decide), _, h1.at', _, h2.at', cok h1.bb h2.bb (by decide) (by decide),
        ⟨Int.ne_of_gt (Int.mul_pos h1.pos h2.pos), (h1.bb.mul h2.bb).mono (by decide)⟩, k⟩
def sp_times (K : PySem.W.Frag) (ns : List Int) : Sp := fun vs H Q _ => match vs with
  | [.ref p, .ref q] => ∃ x y : Q2, (Fq 1000 H p x.1 x.2 ∧ Fq 1000 H q y.1 y.2) ∧ ∀ r H', Same H H' → FrAt H' r (x.1 * y.1) (x.2 * y.2) → Q (.ref r) H'
  | _ => False
theorem sc_times : FnScope ["one", "other"] ["one", "other"] (defScope s_times) := ⟨rfl, rfl, rfl, by decide +kernel, rfl, by decide +kernel, by decide +kernel⟩
theorem ok_times (d : Dfn K mg "times" s_times ["one", "other"]) (er : Errs K mg c_LadderError c_NoBook c_NoFit c_NoGame c_NoNumber c_NoPlayer c_NoRow c_NoStretch c_NoTable c_NoTree c_NoWorth)   (c_fraction : Cal P w K mg base "fraction" ["top", "bottom"] 2 (sp_fraction K ns)) : Cal P w K mg base "times" ["one", "other"] 3 (sp_times K ns) := by
  refine d.cal (k := 2) sc_times (fun vs H Q E h => ?_) (fun f cdv A outer s H vs Q E hr h => ?_)
  · match vs, h with
    | [.ref p, .ref q], _ => rfl
  · match vs, h with
    | [.ref p, .ref q], ⟨x, y, ⟨h1, h2⟩, k⟩ =>
      refine ⟨_, (@pss_one _ _ _ (@ps_ret _ _ _ _ (@e_call _ _ _ _ _ _ _ _ _ _ _ c_fraction hr (by decide) (by rfl) (@pa_cons _ _ _ _ _ (@pe_op _ _ _ _ _ _ _ _ o_mul (@pe_ix _ _ _ _ _ _ _ i_tup (dv 0) pe_int (fun _ _ => rfl)) (@pe_ix _ _ _ _ _ _ _ i_tup (dv 1) pe_int (fun _ _ => rfl))) (@pa_cons _ _ _ _ _ (@pe_op _ _ _ _ _ _ _ _ o_mul (@pe_ix _ _ _ _ _ _ _ i_tup (dv 0) pe_int (fun _ _ => rfl)) (@pe_ix _ _ _ _ _ _ _ i_tup (dv 1) pe_int (fun _ _ => rfl))) pa_nil (by rfl)) (by rfl)) (by decide) (by rfl) (by rfl)))), ?_⟩
      exact ⟨_, h1.at', _, h2.at', cok h1.ba h2.ba (by decide) (by decide), _, h1.at', _, h2.at', cok h1.bb h2.bb (by decide) (by decide),
        ⟨Int.ne_of_gt (Int.mul_pos h1.pos h2.pos), (h1.bb.mul h2.bb).mono (by decide)⟩, k⟩
def odA (x y z : Q2) (s : Int) : Int := if s = 0 then x.1 * y.2 else if s = 1 then x.1 * y.2 * z.1 else x.1 * y.2 * z.2
def odB (x y z : Q2) (s : Int) : Int := if s = 0 then y.1 * x.2 else if s = 1 then y.1 * x.2 * z.2 else y.1 * x.2 * z.1
theorem odA_pos {x y z : Q2} {s : Int} (h1 : 0 < x.1) (h2 : 0 < y.2) (h3 : 0 < z.1) (h4 : 0 < z.2) : 0 < odA x y z s := by
  unfold odA
  have := Int.mul_pos h1 h2
  split
  · assumption
  · split
    · exact Int.mul_pos this h3
    · exact Int.mul_pos this h4
theorem odB_pos {x y z : Q2} {s : Int} (h1 : 0 < y.1) (h2 : 0 < x.2) (h3 : 0 < z.1) (h4 : 0 < z.2) : 0 < odB x y z s := by
  unfold odB
  have := Int.mul_pos h1 h2
  split
  · assumption
  · split
    · exact Int.mul_pos this h4
    · exact Int.mul_pos this h3
theorem odA_bd {n : Nat} {x y z : Q2} {s : Int} (h1 : Bd n x.1) (h2 : Bd n y.2) (h3 : Bd n z.1) (h4 : Bd n z.2) : Bd (n + n + n) (odA x y z s) := by
  unfold odA
  split
  · exact (h1.mul h2).mono (by omega)
  · split
    · exact (h1.mul h2).mul h3
    · exact (h1.mul h2).mul h4
theorem odB_bd {n : Nat} {x y z : Q2} {s : Int} (h1 : Bd n y.1) (h2 : Bd n x.2) (h3 : Bd n z.1) (h4 : Bd n z.2) : Bd (n + n + n) (odB x y z s) := by
  unfold odB
  split
  · exact (h1.mul h2).mono (by omega)
  · split
    · exact (h1.mul h2).mul h4
    · exact (h1.mul h2).mul h3
def sp_odds (K : PySem.W.Frag) (ns : List Int) : Sp := fun vs H Q _ => match vs with
  | [.ref p, .ref q, .int s, .ref e] => ∃ x y z : Q2, (Fq 1200 H p x.1 x.2 ∧ Fq 1200 H q y.1 y.2 ∧ Fq 1200 H e z.1 z.2) ∧ ∀ r H', Same H H' → H' r = some (.tup [.int (odA x y z s), .int (odB x y z s)]) → Q (.ref r) H'
  | [.ref p, .ref q, .int s, .non] => ∃ x y : Q2, (Fq 1200 H p x.1 x.2 ∧ Fq 1200 H q y.1 y.2) ∧ ∀ r H', Same H H' → H' r = some (.tup [.int (odA x y (1, 1) s), .int (odB x y (1, 1) s)]) → Q (.ref r) H'
  | _ => False
theorem sc_odds : FnScope ["worth", "other", "side", "edge", "mine", "theirs"] ["worth", "other", "side", "edge"] (defScope s_odds) := ⟨rfl, rfl, rfl, by decide +kernel, rfl, by decide +kernel, by decide +kernel⟩
theorem ok_odds (d : Dfn K mg "odds" s_odds ["worth", "other", "side", "edge"]) (er : Errs K mg c_LadderError c_NoBook c_NoFit c_NoGame c_NoNumber c_NoPlayer c_NoRow c_NoStretch c_NoTable c_NoTree c_NoWorth)    : Cal P w K mg base "odds" ["worth", "other", "side", "edge"] 1 (sp_odds K ns) := by
  refine d.cal (k := 0) sc_odds (fun vs H Q E h => ?_) (fun f cdv A outer s H vs Q E hr h => ?_)
  · match vs, h with
    | [.ref _, .ref _, .int _, .ref _], _ => rfl
    | [.ref _, .ref _, .int _, .non], _ => rfl
  · refine ⟨_, (@pss_cons _ _ _ _ _ (@ps_set _ _ (4) _ _ _ _ sc_odds.nd rfl (by first | exact Or.inl rfl | exact Or.inr rfl) (@pe_op _ _ _ _ _ _ _ _ o_mul (@pe_ix _ _ _ _ _ _ _ i_tup (dv 0) pe_int (fun _ _ => rfl)) (@pe_ix _ _ _ _ _ _ _ i_tup (dv 1) pe_int (fun _ _ => rfl))) (by rfl) (by first | exact .inl rfl | exact .inr rfl | assumption)) (@pss_cons _ _ _ _ _ (@ps_set _ _ (5) _ _ _ _ sc_odds.nd rfl (by first | exact Or.inl rfl | exact Or.inr rfl) (@pe_op _ _ _ _ _ _ _ _ o_mul (@pe_ix _ _ _ _ _ _ _ i_tup (dv 1) pe_int (fun _ _ => rfl)) (@pe_ix _ _ _ _ _ _ _ i_tup (dv 0) pe_int (fun _ _ => rfl))) (by rfl) (by first | exact .inl rfl | exact .inr rfl | assumption)) (@pss_cons _ _ _ _ _ (@s_if _ _ _ _ _ _ _ _ (@L2.PW.pt _ _ _ (@w_or _ _ _ _ _ _ _ (@t_cmp _ _ _ _ _ _ _ _ o_eq (dv 2) pe_int (@nomark _ _ (by decide) (by decide))) (@pw_or1 _ _ _ _ (@t_isN _ _ _ _ _ _ (dv 3))))) (@pss_one _ _ _ (@ps_ret _ _ _ _ (@e_tup _ _ _ _ _ (@pa_cons _ _ _ _ _ (dv 4) (@pa_cons _ _ _ _ _ (dv 5) pa_nil (by rfl)) (by rfl))))) pss_nil) (@pss_cons _ _ _ _ _ (@s_if _ _ _ _ _ _ _ _ (@t_cmp _ _ _ _ _ _ _ _ o_eq (dv 2) pe_int (@nomark _ _ (by decide) (by decide))) (@pss_one _ _ _ (@ps_ret _ _ _ _ (@e_tup _ _ _ _ _ (@pa_cons _ _ _ _ _ (@pe_op _ _ _ _ _ _ _ _ o_mul (dv 4) (@pe_ix _ _ _ _ _ _ _ i_tup (dv 3) pe_int (fun _ _ => rfl))) (@pa_cons _ _ _ _ _ (@pe_op _ _ _ _ _ _ _ _ o_mul (dv 5) (@pe_ix _ _ _ _ _ _ _ i_tup (dv 3) pe_int (fun _ _ => rfl))) pa_nil (by rfl)) (by rfl))))) pss_nil) (@pss_one _ _ _ (@ps_ret _ _ _ _ (@e_tup _ _ _ _ _ (@pa_cons _ _ _ _ _ (@pe_op _ _ _ _ _ _ _ _ o_mul (dv 4) (@pe_ix _ _ _ _ _ _ _ i_tup (dv 3) pe_int (fun _ _ => rfl))) (@pa_cons _ _ _ _ _ (@pe_op _ _ _ _ _ _ _ _ o_mul (dv 5) (@pe_ix _ _ _ _ _ _ _ i_tup (dv 3) pe_int (fun _ _ => rfl))) pa_nil (by rfl)) (by rfl))))))))), ?_⟩
    match vs, h with
    | [.ref p, .ref q, .int sd, .ref e], ⟨x, y, z, ⟨h1, h2, h3⟩, k⟩ =>
      refine ⟨_, h1.at', _, h2.at', cok h1.ba h2.bb (by decide) (by decide), _, h2.at', _, h1.at', cok h2.ba h1.bb (by decide) (by decide), ?_⟩
      have m1 : Bd 2400 (x.1 * y.2) := h1.ba.mul h2.bb
      have m2 : Bd 2400 (y.1 * x.2) := h2.ba.mul h1.bb
      refine ⟨fun h => ⟨fun _ r H' s e => k r H' s ?_, fun h => absurd h (by decide)⟩, fun h => ⟨fun h => absurd h (by simp), fun _ => ⟨fun h' => ?_, fun h' => ?_⟩⟩⟩
      · have hs : sd = 0 := of_decide_eq_true h
        simpa [odA, odB, hs] using e
      · have hs : ¬ sd = 0 := of_decide_eq_false h
        have hs' : sd = 1 := of_decide_eq_true h'
        refine ⟨_, h3.at', cok m1 h3.ba (by decide) (by decide), _, h3.at', cok m2 h3.bb (by decide) (by decide), fun r H' s e => k r H' s ?_⟩
        simpa [odA, odB, hs'] using e
      · have hs : ¬ sd = 0 := of_decide_eq_false h
        have hs' : ¬ sd = 1 := of_decide_eq_false h'
        refine ⟨_, h3.at', cok m1 h3.bb (by decide) (by decide), _, h3.at', cok m2 h3.ba (by decide) (by decide), fun r H' s e => k r H' s ?_⟩
        simpa [odA, odB, hs, hs'] using e
    | [.ref p, .ref q, .int sd, .non], ⟨x, y, ⟨h1, h2⟩, k⟩ =>
      refine ⟨_, h1.at', _, h2.at', cok h1.ba h2.bb (by decide) (by decide), _, h2.at', _, h1.at', cok h2.ba h1.bb (by decide) (by decide), ?_⟩
      have fin : ∀ r H', Same H H' → H' r = some (.tup [.int (x.1 * y.2), .int (y.1 * x.2)]) → Q (.ref r) H' := fun r H' s e => k r H' s (by simpa [odA, odB] using e)
      exact ⟨fun _ => ⟨fun _ => fin, fun h => absurd h (by decide)⟩, fun _ => ⟨fun _ => fin, fun h => absurd h (by simp)⟩⟩
def sp_share (K : PySem.W.Frag) (ns : List Int) : Sp := fun vs H Q _ => match vs with
  | [.ref p, .ref q, .int s, .non] => ∃ x y : Q2, (Fq 1000 H p x.1 x.2 ∧ Fq 1000 H q y.1 y.2 ∧ 0 < x.1 ∧ 0 < y.1) ∧ ∀ r H', Same H H' → FrAt H' r (odA x y (1, 1) s) (odA x y (1, 1) s + odB x y (1, 1) s) → Q (.ref r) H'
  | _ => False
theorem sc_share : FnScope ["worth", "other", "side", "edge", "pair"] ["worth", "other", "side", "edge"] (defScope s_share) := ⟨rfl, rfl, rfl, by decide +kernel, rfl, by decide +kernel, by decide +kernel⟩
theorem ok_share (d : Dfn K mg "share" s_share ["worth", "other", "side", "edge"]) (er : Errs K mg c_LadderError c_NoBook c_NoFit c_NoGame c_NoNumber c_NoPlayer c_NoRow c_NoStretch c_NoTable c_NoTree c_NoWorth)   (c_fraction : Cal P w K mg base "fraction" ["top", "bottom"] 2 (sp_fraction K ns)) (c_odds : Cal P w K mg base "odds" ["worth", "other", "side", "edge"] 1 (sp_odds K ns)) : Cal P w K mg base "share" ["worth", "other", "side", "edge"] 3 (sp_share K ns) := by
  refine d.cal (k := 2) sc_share (fun vs H Q E h => ?_) (fun f cdv A outer s H vs Q E hr h => ?_)
  · match vs, h with
    | [.ref p, .ref q, .int s, .non], _ => rfl
  · match vs, h with
    | [.ref p, .ref q, .int s, .non], ⟨x, y, ⟨h1, h2, x0, y0⟩, k⟩ =>
      refine ⟨_, (@pss_cons _ _ _ _ _ (@ps_set _ _ (4) _ _ _ _ sc_share.nd rfl (by first | exact Or.inl rfl | exact Or.inr rfl) (@e_call _ _ _ _ _ _ _ _ _ _ _ c_odds hr (by decide) (by rfl) (@pa_cons _ _ _ _ _ (dv 0) (@pa_cons _ _ _ _ _ (dv 1) (@pa_cons _ _ _ _ _ (dv 2) (@pa_cons _ _ _ _ _ (dv 3) pa_nil (by rfl)) (by rfl)) (by rfl)) (by rfl)) (by decide) (by rfl) (by rfl)) (by rfl) (by first | exact .inl rfl | exact .inr rfl | assumption)) (@pss_one _ _ _ (@ps_ret _ _ _ _ (@e_call _ _ _ _ _ _ _ _ _ _ _ c_fraction hr (by decide) (by rfl) (@pa_cons _ _ _ _ _ (@pe_ix _ _ _ _ _ _ _ i_tup (dv 4) pe_int (fun _ _ => rfl)) (@pa_cons _ _ _ _ _ (@pe_op _ _ _ _ _ _ _ _ o_add (@pe_ix _ _ _ _ _ _ _ i_tup (dv 4) pe_int (fun _ _ => rfl)) (@pe_ix _ _ _ _ _ _ _ i_tup (dv 4) pe_int (fun _ _ => rfl))) pa_nil (by rfl)) (by rfl)) (by decide) (by rfl) (by rfl))))), ?_⟩
      refine ⟨x, y, ⟨h1.mono (by decide), h2.mono (by decide)⟩, fun r H1 s1 e1 => ?_⟩
      have p1 := odA_pos (x := x) (y := y) (z := (1, 1)) (s := s) x0 h2.pos (by decide) (by decide)
      have p2 := odB_pos (x := x) (y := y) (z := (1, 1)) (s := s) y0 h1.pos (by decide) (by decide)
      have b1 := odA_bd (n := 1000) (x := x) (y := y) (z := (1, 1)) (s := s) h1.ba h2.bb (bd_lit rfl) (bd_lit rfl)
      have b2 := odB_bd (n := 1000) (x := x) (y := y) (z := (1, 1)) (s := s) h2.ba h1.bb (bd_lit rfl) (bd_lit rfl)
      exact ⟨_, e1, _, e1, _, e1, ⟨by omega, (b1.add b2).mono (by decide)⟩, fun p H2 s2 f2 => k p H2 (s1.trans s2) f2⟩
theorem low_scale {g a b : Int} (hg : 0 < g) : lowT (a * g) (b * g) = lowT a b ∧ lowB (a * g) (b * g) = lowB a b := by
  have e : (Int.gcd (a * g) (b * g) : Int) = (Int.gcd a b : Int) * g := by
    rw [Int.gcd_mul_right]
    have : (g.natAbs : Int) = g := Int.natAbs_of_nonneg (Int.le_of_lt hg)
    rw [Int.natCast_mul, this]
  unfold lowT lowB
  rw [e]
  exact ⟨Int.mul_ediv_mul_of_pos_left _ _ hg, Int.mul_ediv_mul_of_pos_left _ _ hg⟩
theorem low_same {t b t' b' : Int} (hb : 0 < b) (hb' : 0 < b') (h : t * b' = t' * b) : lowT t b = lowT t' b' ∧ lowB t b = lowB t' b' := by
  have e1 := low_scale (a := t) (b := b) hb'
  have e2 := low_scale (a := t') (b := b') hb
  rw [h, show b * b' = b' * b from Int.mul_comm ..] at e1
  exact ⟨e1.1.symm.trans e2.1, e1.2.symm.trans e2.2⟩
theorem lowT_pos {t b : Int} (ht : 0 < t) : 0 < lowT t b := by
  have h := lowT_mul t b
  have g : 0 < (Int.gcd t b : Int) := by
    have : 0 < Int.gcd t b := Int.gcd_pos_of_ne_zero_left _ (by omega)
    omega
  refine Int.lt_of_not_ge fun c => ?_
  have := Int.mul_nonpos_of_nonpos_of_nonneg c (Int.le_of_lt g)
  omega
def kvV (names : List Str) (f : Str → V) : List (Key × V) := names.map fun y => ((Sum.inr y : Key), f y)
theorem kvV_keys {names : List Str} {f : Str → V} : (kvV names f).map (·.1) = names.map Sum.inr := by
  unfold kvV
  rw [List.map_map]
  rfl
theorem kvV_val {names : List Str} {f : Str → V} {y : Str} (h : y ∈ names) : valV (kvV names f) (Sum.inr y) = some (f y) := by
  induction names with
  | nil => simp at h
  | cons n names ih =>
    show valV (((Sum.inr n : Key), f n) :: kvV names f) (Sum.inr y) = _
    by_cases e : n = y
    · subst e
      exact valV_pos rfl
    · rw [valV_neg fun z => e (Sum.inr.inj z)]
      exact ih ((List.mem_cons.mp h).resolve_left fun z => e z.symm)
theorem kvV_none {names : List Str} {f : Str → V} {y : Str} (h : y ∉ names) : valV (kvV names f) (Sum.inr y) = none := by
  induction names with
  | nil => rfl
  | cons n names ih =>
    show valV (((Sum.inr n : Key), f n) :: kvV names f) (Sum.inr y) = _
    rw [valV_neg fun z => h (List.mem_cons.mpr (.inl (Sum.inr.inj z).symm))]
    exact ih fun z => h (List.mem_cons_of_mem _ z)
theorem kvV_put {names : List Str} {f : Str → V} {x : Str} {r : V} (h : x ∈ names) : putK (kvV names f) (Sum.inr x) r = kvV names fun y => if y = x then r else f y := by
  unfold putK
  rw [if_pos (by rw [valV_any, kvV_val h]; rfl)]
  unfold kvV
  rw [List.map_map]
  refine List.map_congr_left fun y _ => ?_
  show (if (Sum.inr y : Key) = Sum.inr x then ((Sum.inr y : Key), r) else (Sum.inr y, f y)) = (Sum.inr y, if y = x then r else f y)
  by_cases e : y = x
  · rw [if_pos (congrArg Sum.inr e), if_pos e]
  · rw [if_neg fun z => e (Sum.inr.inj z), if_neg e]
theorem kvV_new {names : List Str} {f : Str → V} {x : Str} {r : V} (h : x ∉ names) : putK (kvV names f) (Sum.inr x) r = kvV (names ++ [x]) fun y => if y = x then r else f y := by
  unfold putK
  rw [if_neg (by rw [valV_any, kvV_none h]; decide)]
  unfold kvV
  rw [List.map_append]
  congr 1
  · refine List.map_congr_left fun y hy => ?_
    have ne : ¬ y = x := fun e => h (by rw [← e]; exact hy)
    show (Sum.inr y, f y) = (Sum.inr y, if y = x then r else f y)
    rw [if_neg ne]
  · simp
def sR (f : Str → Rat) : List Str → Rat
  | [] => 0
  | x :: l => f x + sR f l
theorem sR_app {f : Str → Rat} : ∀ {l m : List Str}, sR f (l ++ m) = sR f l + sR f m
  | [], m => by
    show sR f m = 0 + _
    grind
  | x :: l, m => by
    show f x + sR f (l ++ m) = f x + sR f l + _
    rw [sR_app]
    grind
theorem sR_cong {f g : Str → Rat} : ∀ {l : List Str}, (∀ x ∈ l, f x = g x) → sR f l = sR g l
  | [], _ => rfl
  | x :: l, h => by
    show f x + sR f l = g x + sR g l
    rw [h x List.mem_cons_self, sR_cong fun y hy => h y (List.mem_cons_of_mem _ hy)]
theorem sR_mul {f : Str → Rat} {c : Rat} : ∀ {l : List Str}, sR (fun x => c * f x) l = c * sR f l
  | [] => by
    show (0 : Rat) = c * 0
    grind
  | x :: l => by
    show c * f x + sR (fun x => c * f x) l = c * (f x + sR f l)
    rw [sR_mul]
    grind
theorem sR_add {f g : Str → Rat} : ∀ {l : List Str}, sR (fun x => f x + g x) l = sR f l + sR g l
  | [] => by
    show (0 : Rat) = 0 + 0
    grind
  | x :: l => by
    show f x + g x + sR (fun x => f x + g x) l = f x + sR f l + (g x + sR g l)
    rw [sR_add]
    grind
theorem sR_zero : ∀ {l : List Str}, sR (fun _ => 0) l = 0
  | [] => rfl
  | x :: l => by
    show (0 : Rat) + sR (fun _ => 0) l = 0
    rw [sR_zero]
    grind
theorem sR_swap {f : Str → Str → Rat} : ∀ {l m : List Str}, sR (fun x => sR (fun y => f x y) m) l = sR (fun y => sR (fun x => f x y) l) m
  | [], m => by
    show (0 : Rat) = _
    exact sR_zero.symm
  | x :: l, m => by
    show sR (fun y => f x y) m + sR (fun x => sR (fun y => f x y) m) l = sR (fun y => f x y + sR (fun x => f x y) l) m
    rw [sR_swap, sR_add]
theorem sR_nn {f : Str → Rat} : ∀ {l : List Str}, (∀ x ∈ l, 0 ≤ f x) → 0 ≤ sR f l
  | [], _ => by
    show (0 : Rat) ≤ 0
    grind
  | x :: l, h => by
    have a := h x List.mem_cons_self
    have b := sR_nn fun y hy => h y (List.mem_cons_of_mem _ hy)
    show 0 ≤ f x + sR f l
    grind
theorem sR_le {f g : Str → Rat} : ∀ {l : List Str}, (∀ x ∈ l, f x ≤ g x) → sR f l ≤ sR g l
  | [], _ => by
    show (0 : Rat) ≤ 0
    grind
  | x :: l, h => by
    have a := h x List.mem_cons_self
    have b := sR_le fun y hy => h y (List.mem_cons_of_mem _ hy)
    show f x + sR f l ≤ g x + sR g l
    grind
def g2 (w : Str → Int) (x y : Str) : Rat := (w x : Rat) / ((w x : Rat) + (w y : Rat))
def sh (w : Str → Int) : Tr → Str → Rat
  | .leaf _, _ => 1
  | .node a b, x => if x ∈ lv a then sh w a x * sR (fun o => sh w b o * g2 w x o) (lv b) else sh w b x * sR (fun o => sh w a o * g2 w x o) (lv a)
def Wk (w : Str → Int) (l : List Str) : Prop := ∀ x ∈ l, 1 ≤ w x ∧ w x ≤ 999
theorem g2_pos {w : Str → Int} {x y : Str} (hx : 1 ≤ w x) (hy : 1 ≤ w y) : 0 < g2 w x y ∧ g2 w x y < 1 ∧ g2 w x y + g2 w y x = 1 := by
  have a : (0 : Rat) < (w x : Rat) := ic_pos (by omega)
  have b : (0 : Rat) < (w y : Rat) := ic_pos (by omega)
  have c : (w x : Rat) + (w y : Rat) ≠ 0 := by grind
  have p : 0 < g2 w x y := dv_pos a (by grind)
  have q : 0 < g2 w y x := dv_pos b (by grind)
  have s : g2 w x y + g2 w y x = 1 := by
    unfold g2
    grind
  exact ⟨p, by grind, s⟩
theorem sh_pos {w : Str → Int} : ∀ {t : Tr}, Wk w (lv t) → ∀ x ∈ lv t, 0 < sh w t x
  | .leaf _, _, _, _ => by
    show (0 : Rat) < 1
    grind
  | .node a b, h, x, hx => by
    have ha : Wk w (lv a) := fun y hy => h y (List.mem_append_left _ hy)
    have hb : Wk w (lv b) := fun y hy => h y (List.mem_append_right _ hy)
    have sp : ∀ {t : Tr} {x : Str}, Wk w (lv t) → (∀ y ∈ lv t, 0 < sh w t y) → 1 ≤ w x → 0 < sR (fun o => sh w t o * g2 w x o) (lv t) := fun {t x} ht hs hx => by
      have pp : ∀ {l : List Str}, l ≠ [] → (∀ y ∈ l, 0 < sh w t y * g2 w x y) → 0 < sR (fun o => sh w t o * g2 w x o) l := fun {l} ne hl => by
        cases l with
        | nil => exact absurd rfl ne
        | cons z l =>
          have a := hl z List.mem_cons_self
          have b := sR_nn (f := fun o => sh w t o * g2 w x o) (l := l) fun y hy => by
            have := hl y (List.mem_cons_of_mem _ hy)
            grind
          show 0 < sh w t z * g2 w x z + sR (fun o => sh w t o * g2 w x o) l
          grind
      exact pp (fun e => by have := lv_pos t; rw [e] at this; simp at this) fun y hy => Rat.mul_pos (hs y hy) (g2_pos hx (ht y hy).1).1
    have wx := (h x hx).1
    unfold sh
    by_cases c : x ∈ lv a
    · rw [if_pos c]
      exact Rat.mul_pos (sh_pos ha x c) (sp hb (fun y hy => sh_pos hb y hy) wx)
    · rw [if_neg c]
      exact Rat.mul_pos (sh_pos hb x ((List.mem_append.mp hx).resolve_left c)) (sp ha (fun y hy => sh_pos ha y hy) wx)
theorem sh_one {w : Str → Int} : ∀ {t : Tr}, (lv t).Nodup → Wk w (lv t) → sR (sh w t) (lv t) = 1
  | .leaf s, _, _ => by
    show (1 : Rat) + 0 = 1
    grind
  | .node a b, nd, h => by
    have nd : (lv a ++ lv b).Nodup := nd
    obtain ⟨na, nb, nab⟩ := List.nodup_append.mp nd
    have ha : Wk w (lv a) := fun y hy => h y (List.mem_append_left _ hy)
    have hb : Wk w (lv b) := fun y hy => h y (List.mem_append_right _ hy)
    have ia := sh_one na ha
    have ib := sh_one nb hb
    show sR (sh w (.node a b)) (lv a ++ lv b) = 1
    rw [sR_app]
    have e1 : sR (sh w (.node a b)) (lv a) = sR (fun x => sR (fun o => sh w a x * (sh w b o * g2 w x o)) (lv b)) (lv a) := sR_cong fun x hx => by
      rw [sR_mul]
      exact if_pos hx
    have e2 : sR (sh w (.node a b)) (lv b) = sR (fun x => sR (fun o => sh w a o * (sh w b x * g2 w x o)) (lv a)) (lv b) := sR_cong fun x hx => by
      have e : sh w (.node a b) x = sh w b x * sR (fun o => sh w a o * g2 w x o) (lv a) := if_neg fun c => nab x c x hx rfl
      rw [e, ← sR_mul]
      exact sR_cong fun o _ => by grind
    rw [e1, e2, ← sR_swap (f := fun o x => sh w a o * (sh w b x * g2 w x o)), ← sR_add]
    have e3 : sR (fun x => sR (fun o => sh w a x * (sh w b o * g2 w x o)) (lv b) + sR (fun y => sh w a x * (sh w b y * g2 w y x)) (lv b)) (lv a) = sR (fun x => sh w a x * 1) (lv a) := sR_cong fun x hx => by
      rw [← sR_add]
      have e4 : sR (fun y => sh w a x * (sh w b y * g2 w x y) + sh w a x * (sh w b y * g2 w y x)) (lv b) = sR (fun y => sh w a x * sh w b y) (lv b) := sR_cong fun y hy => by
        have := (g2_pos (ha x hx).1 (hb y hy).1).2.2
        grind
      rw [e4, sR_mul, ib]
    rw [e3]
    have e5 : sR (fun x => sh w a x * 1) (lv a) = sR (sh w a) (lv a) := sR_cong fun x _ => by grind
    rw [e5, ia]
def pr (f : Str → Int) : List Str → Int
  | [] => 1
  | x :: l => f x * pr f l
theorem pr_pos {f : Str → Int} : ∀ {l : List Str}, (∀ x ∈ l, 0 < f x) → 0 < pr f l
  | [], _ => by
    show (0 : Int) < 1
    decide
  | x :: l, h => Int.mul_pos (h x List.mem_cons_self) (pr_pos fun y hy => h y (List.mem_cons_of_mem _ hy))
theorem pr_split {f : Str → Int} {x : Str} : ∀ {l : List Str}, (∀ x ∈ l, 0 < f x) → x ∈ l → ∃ r, pr f l = f x * r ∧ 0 < r
  | y :: l, h, hx => by
    have hl : ∀ z ∈ l, 0 < f z := fun z hz => h z (List.mem_cons_of_mem _ hz)
    by_cases e : x = y
    · subst e
      exact ⟨pr f l, rfl, pr_pos hl⟩
    · obtain ⟨r, h1, h2⟩ := pr_split hl ((List.mem_cons.mp hx).resolve_left e)
      refine ⟨f y * r, ?_, Int.mul_pos (h y List.mem_cons_self) h2⟩
      show f y * pr f l = _
      rw [h1]
      grind
theorem pr_bd {f : Str → Int} {c : Nat} : ∀ {l : List Str}, (∀ x ∈ l, Bd c (f x)) → Bd (c * l.length + 1) (pr f l)
  | [], _ => (bd_lit rfl : Bd 1 1).mono (by omega)
  | x :: l, h => by
    have := (h x List.mem_cons_self).mul (pr_bd fun y hy => h y (List.mem_cons_of_mem _ hy))
    refine Bd.mono this ?_
    rw [List.length_cons, Nat.mul_add, Nat.mul_one]
    omega
theorem rq_up {k N r : Int} (hN : 0 < N) (hr : 0 < r) : rq (k * r) (N * r) = rq k N := (rq_eq (Int.mul_pos hN hr) hN).mpr (by grind)
theorem den_sum {w : Str → Int} {x : Str} {N : Int} {f : Str → Rat} (hN : 0 < N) (hx : 1 ≤ w x) : ∀ {l : List Str}, (∀ o ∈ l, 1 ≤ w o) → (∀ o ∈ l, ∃ k : Int, f o = rq k N) →
    ∃ k : Int, sR (fun o => f o * g2 w x o) l = rq k (N * pr (fun o => w x + w o) l)
  | [], _, _ => ⟨0, by
    show (0 : Rat) = (((0 : Int) : Rat)) / _
    simp
    grind⟩
  | o :: l, hw, h => by
    obtain ⟨k, hk⟩ := den_sum (f := f) hN hx (fun o ho => hw o (List.mem_cons_of_mem _ ho)) fun o ho => h o (List.mem_cons_of_mem _ ho)
    obtain ⟨j, hj⟩ := h o List.mem_cons_self
    have po : 0 < w x + w o := by
      have := hw o List.mem_cons_self
      omega
    have pp : 0 < pr (fun o => w x + w o) l := pr_pos fun y hy => by
      have := hw y (List.mem_cons_of_mem _ hy)
      omega
    refine ⟨j * w x * pr (fun o => w x + w o) l + k * (w x + w o), ?_⟩
    show f o * g2 w x o + sR (fun o => f o * g2 w x o) l = rq _ (N * ((w x + w o) * pr (fun o => w x + w o) l))
    rw [hk, hj]
    generalize pr (fun o => w x + w o) l = P at *
    have e1 : rq j N * g2 w x o = rq (j * w x) (N * (w x + w o)) := by
      unfold rq g2
      rw [Rat.intCast_mul, Rat.intCast_mul, Rat.intCast_add]
      have a : (N : Rat) ≠ 0 := by have := ic_pos hN; grind
      have b : (w x : Rat) + (w o : Rat) ≠ 0 := by have := ic_pos po; rw [Rat.intCast_add] at this; grind
      grind
    rw [e1, ← rq_up (k := j * w x) (r := P) (Int.mul_pos hN po) pp, ← rq_up (k := k) (r := w x + w o) (Int.mul_pos hN pp) po]
    have e2 : N * P * (w x + w o) = N * (w x + w o) * P := by grind
    rw [e2]
    have e3 : N * ((w x + w o) * P) = N * (w x + w o) * P := by grind
    rw [e3]
    unfold rq
    rw [Rat.intCast_add]
    grind
def prs : Tr → Nat
  | .leaf _ => 0
  | .node a b => prs a + prs b + (lv a).length * (lv b).length
theorem prs_eq : ∀ t, 2 * prs t + (lv t).length = (lv t).length * (lv t).length
  | .leaf _ => rfl
  | .node a b => by
    have ia := prs_eq a
    have ib := prs_eq b
    show 2 * (prs a + prs b + (lv a).length * (lv b).length) + (lv a ++ lv b).length = (lv a ++ lv b).length * (lv a ++ lv b).length
    rw [List.length_append]
    generalize (lv a).length = m at *
    generalize (lv b).length = n at *
    grind
theorem prs_le {t : Tr} (h : (lv t).length ≤ 8) : prs t ≤ 28 := by
  have e := prs_eq t
  generalize (lv t).length = n at *
  have : n * n ≤ 8 * 8 ∧ (n ≤ 7 → n * n ≤ 7 * 7) ∧ (n ≤ 6 → n * n ≤ 6 * 6) := ⟨Nat.mul_le_mul h h, fun h => Nat.mul_le_mul h h, fun h => Nat.mul_le_mul h h⟩
  by_cases h7 : n ≤ 7
  · have := this.2.1 h7
    omega
  · have : n = 8 := by omega
    subst this
    omega
theorem pr_one : ∀ {l : List Str}, pr (fun _ => 1) l = 1
  | [] => rfl
  | x :: l => by
    show 1 * pr (fun _ => 1) l = 1
    rw [pr_one]
    rfl
theorem pr_mul {f g : Str → Int} : ∀ {l : List Str}, pr (fun x => f x * g x) l = pr f l * pr g l
  | [] => rfl
  | x :: l => by
    show f x * g x * pr (fun x => f x * g x) l = f x * pr f l * (g x * pr g l)
    rw [pr_mul]
    grind
theorem pr_cong {f g : Str → Int} : ∀ {l : List Str}, (∀ x ∈ l, f x = g x) → pr f l = pr g l
  | [], _ => rfl
  | x :: l, h => by
    show f x * pr f l = g x * pr g l
    rw [h x List.mem_cons_self, pr_cong fun y hy => h y (List.mem_cons_of_mem _ hy)]
theorem pr_swap {f : Str → Str → Int} : ∀ {l m : List Str}, pr (fun x => pr (fun y => f x y) m) l = pr (fun y => pr (fun x => f x y) l) m
  | [], m => by
    show (1 : Int) = _
    exact pr_one.symm
  | x :: l, m => by
    show pr (fun y => f x y) m * pr (fun x => pr (fun y => f x y) m) l = pr (fun y => f x y * pr (fun x => f x y) l) m
    rw [pr_swap, pr_mul]
theorem rq_times {j k A B : Int} (hA : 0 < A) (hB : 0 < B) : rq j A * rq k B = rq (j * k) (A * B) := by
  unfold rq
  rw [Rat.intCast_mul, Rat.intCast_mul]
  have a : (A : Rat) ≠ 0 := by have := ic_pos hA; grind
  have b : (B : Rat) ≠ 0 := by have := ic_pos hB; grind
  grind
theorem sh_den {w : Str → Int} : ∀ {t : Tr}, (lv t).Nodup → Wk w (lv t) → ∃ N : Int, 0 < N ∧ Bd (13 * prs t + (lv t).length) N ∧ ∀ x ∈ lv t, ∃ k : Int, sh w t x = rq k N
  | .leaf s, _, _ => ⟨1, by decide, (bd_lit rfl : Bd 1 1).mono (by show 1 ≤ 13 * 0 + 1; decide), fun x _ => ⟨1, by
    show (1 : Rat) = ((1 : Int) : Rat) / ((1 : Int) : Rat)
    simp
    grind⟩⟩
  | .node a b, nd, h => by
    have nd : (lv a ++ lv b).Nodup := nd
    obtain ⟨na, nb, nab⟩ := List.nodup_append.mp nd
    have ha : Wk w (lv a) := fun y hy => h y (List.mem_append_left _ hy)
    have hb : Wk w (lv b) := fun y hy => h y (List.mem_append_right _ hy)
    obtain ⟨A, pA, bA, hA⟩ := sh_den na ha
    obtain ⟨B, pB, bB, hB⟩ := sh_den nb hb
    have pos2 : ∀ x ∈ lv a, ∀ o ∈ lv b, 0 < w x + w o := fun x hx o ho => by
      have := (ha x hx).1
      have := (hb o ho).1
      omega
    have pin : ∀ x ∈ lv a, 0 < pr (fun o => w x + w o) (lv b) := fun x hx => pr_pos fun o ho => pos2 x hx o ho
    have pin' : ∀ o ∈ lv b, 0 < pr (fun x => w x + w o) (lv a) := fun o ho => pr_pos fun x hx => pos2 x hx o ho
    have pP : 0 < pr (fun x => pr (fun o => w x + w o) (lv b)) (lv a) := pr_pos pin
    have bP : Bd ((11 * (lv b).length + 1) * (lv a).length + 1) (pr (fun x => pr (fun o => w x + w o) (lv b)) (lv a)) := pr_bd fun x hx => pr_bd fun o ho => by
      have := ha x hx
      have := hb o ho
      exact bd_of (b := 1998) (by omega) (by omega) (bd_lit rfl)
    refine ⟨A * B * pr (fun x => pr (fun o => w x + w o) (lv b)) (lv a), Int.mul_pos (Int.mul_pos pA pB) pP, ((bA.mul bB).mul bP).mono ?_, fun x hx => ?_⟩
    · have la := lv_pos a
      have lb := lv_pos b
      show _ ≤ 13 * (prs a + prs b + (lv a).length * (lv b).length) + (lv a ++ lv b).length
      rw [List.length_append]
      generalize (lv a).length = m at *
      generalize (lv b).length = n at *
      have h1 : m ≤ m * n := Nat.le_mul_of_pos_right _ lb
      have e : (11 * n + 1) * m = 11 * (m * n) + m := by grind
      rw [e]
      omega
    · by_cases c : x ∈ lv a
      · obtain ⟨ka, e1⟩ := hA x c
        obtain ⟨K, e2⟩ := den_sum (w := w) (x := x) (f := sh w b) pB (ha x c).1 (fun o ho => (hb o ho).1) hB
        obtain ⟨r, e3, pr'⟩ := pr_split pin c
        refine ⟨ka * K * r, ?_⟩
        have e : sh w (.node a b) x = sh w a x * sR (fun o => sh w b o * g2 w x o) (lv b) := if_pos c
        rw [e, e1, e2, rq_times pA (Int.mul_pos pB (pin x c)), e3, ← rq_up (r := r) (Int.mul_pos pA (Int.mul_pos pB (pin x c))) pr']
        congr 1
        grind
      · have cb : x ∈ lv b := (List.mem_append.mp hx).resolve_left c
        obtain ⟨kb, e1⟩ := hB x cb
        obtain ⟨K, e2⟩ := den_sum (w := w) (x := x) (f := sh w a) pA (hb x cb).1 (fun o ho => (ha o ho).1) hA
        rw [pr_swap (f := fun x o => w x + w o)] at pP ⊢
        obtain ⟨r, e3, pr'⟩ := pr_split pin' cb
        have e4 : pr (fun o => w x + w o) (lv a) = pr (fun o => w o + w x) (lv a) := pr_cong fun o _ => Int.add_comm ..
        rw [e4] at e2
        refine ⟨kb * K * r, ?_⟩
        have e : sh w (.node a b) x = sh w b x * sR (fun o => sh w a o * g2 w x o) (lv a) := if_neg c
        rw [e, e1, e2, rq_times pB (Int.mul_pos pA (pin' x cb)), e3, ← rq_up (r := r) (Int.mul_pos pB (Int.mul_pos pA (pin' x cb))) pr']
        congr 1
        grind
def LQ (q : Q2) (r : Rat) : Prop := ∃ T B, 0 < B ∧ q = (lowT T B, lowB T B) ∧ rq T B = r
theorem lq_bd {q : Q2} {r : Rat} {n : Nat} {N k : Int} (h : LQ q r) (h0 : 0 ≤ r) (h1 : r ≤ 1) (hN : 0 < N) (bN : Bd n N) (e : r = rq k N) : (0 < q.2 ∧ 0 ≤ q.1) ∧ Bd n q.1 ∧ Bd n q.2 := by
  obtain ⟨T, B, pB, rfl, hr⟩ := h
  rw [e] at hr
  have c := (rq_eq pB hN).mp hr
  have ls := (low_same pB hN c).2
  have p2 : 0 < lowB T B := lowB_pos T pB
  have b2 : Bd n (lowB T B) := by rw [ls]; exact bd_lowB bN
  have er : rq (lowT T B) (lowB T B) = r := by rw [rq_low pB, hr, e]
  have m := rq_mul (t := lowT T B) p2
  rw [er] at m
  have pq : (0 : Rat) < (lowB T B : Rat) := ic_pos p2
  have t0 : (0 : Rat) ≤ (lowT T B : Rat) := by
    rw [← m]
    exact Rat.mul_nonneg h0 (Rat.le_of_lt pq)
  have t1 : (lowT T B : Rat) ≤ (lowB T B : Rat) := by
    rw [← m]
    have := Rat.mul_le_mul_of_nonneg_right h1 (Rat.le_of_lt pq)
    grind
  have i0 : 0 ≤ lowT T B := Rat.intCast_nonneg.mp t0
  have i1 : lowT T B ≤ lowB T B := Rat.intCast_le_intCast.mp t1
  exact ⟨⟨p2, i0⟩, b2.of_le (by show (lowT T B).natAbs ≤ (lowB T B).natAbs; omega), b2⟩
theorem fr_low' {t b : Int} (hb : 0 < b) : frT t b = lowT t b ∧ frB t b = lowB t b := by
  unfold frT frB
  rw [if_neg (by omega), if_neg (by omega)]
  exact ⟨rfl, rfl⟩
theorem fr_lq {H : Hp} {p : Addr} {t b : Int} (hb : 0 < b) (h : FrAt H p t b) : ∃ q : Q2, H p = some (.tup [.int q.1, .int q.2]) ∧ LQ q (rq t b) ∧ q = (lowT t b, lowB t b) := by
  obtain ⟨e1, e2⟩ := fr_low' (t := t) hb
  exact ⟨(lowT t b, lowB t b), by rw [h.at', e1, e2], ⟨t, b, hb, rfl, rfl⟩, rfl⟩
theorem lq_rq {q : Q2} {r : Rat} (h : LQ q r) : rq q.1 q.2 = r := by
  obtain ⟨T, B, pB, rfl, hr⟩ := h
  rw [← hr]
  exact rq_low pB
theorem rq_zero' : rq 0 1 = 0 := by
  show ((0 : Int) : Rat) / ((1 : Int) : Rat) = 0
  simp
  grind
def FQ (H : Hp) (p : Addr) (r : Rat) : Prop := ∃ q : Q2, H p = some (.tup [.int q.1, .int q.2]) ∧ LQ q r ∧ (0 < q.2 ∧ 0 ≤ q.1) ∧ Bd 400 q.1 ∧ Bd 400 q.2
theorem fq_up' {H H' : Hp} (k : Kt H H') {p : Addr} {r : Rat} (h : FQ H p r) : FQ H' p r := by
  obtain ⟨q, e, r⟩ := h
  exact ⟨q, k _ _ e, r⟩
def WA (H : Hp) (W : Addr) (l : List Str) (w : Str → Int) : Prop := (∃ kvs, Rd H W (.dK kvs) ∧ ∀ x ∈ l, valV kvs (Sum.inr x) = some (.int (w x))) ∧ Wk w l
theorem rd_up' {H H' : Hp} {a : Addr} {u : HO} (s : Same H H') (h : Rd H a u) : Rd H' a u := by
  rcases h with h | ⟨o, h⟩
  · exact .inl (s _ _ h)
  · exact .inr ⟨o, s _ _ h⟩
theorem WA.up {H H' : Hp} {W : Addr} {l : List Str} {w : Str → Int} (s : Same H H') (h : WA H W l w) : WA H' W l w := by
  obtain ⟨⟨kvs, e, a⟩, k⟩ := h
  exact ⟨⟨kvs, rd_up' s e, a⟩, k⟩
theorem WA.sub {H : Hp} {W : Addr} {l m : List Str} {w : Str → Int} (h : WA H W l w) (hs : ∀ x ∈ m, x ∈ l) : WA H W m w := by
  obtain ⟨⟨kvs, e, a⟩, k⟩ := h
  exact ⟨⟨kvs, e, fun x hx => a x (hs x hx)⟩, fun x hx => k x (hs x hx)⟩
theorem dget_r' {H : Hp} {a : Addr} {kvs : List (Key × V)} {k : Key} (e : Rd H a (.dK kvs)) : DGet H a (kV k) (valV kvs k) := .inl ⟨kvs, k, e, rfl, rfl⟩
theorem WA.get {H : Hp} {W : Addr} {l : List Str} {w : Str → Int} {x : Str} (h : WA H W l w) (hx : x ∈ l) : DGet H W (.str x) (some (.int (w x))) := by
  obtain ⟨⟨kvs, e, a⟩, k⟩ := h
  have := dget_r' (k := Sum.inr x) e
  rw [a x hx] at this
  exact this
def sp_game_share (K : PySem.W.Frag) (ns : List Int) : Sp := fun vs H Q _ => match vs with
  | [.str x, .str y, .ref W] => ∃ w, WA H W [x, y] w ∧ ∀ p (q : Q2) H', Same H H' → H' p = some (.tup [.int q.1, .int q.2]) → LQ q (g2 w x y) → (0 < q.2 ∧ 0 < q.1) → Bd 12 q.1 → Bd 12 q.2 → Q (.ref p) H'
  | _ => False
theorem sc_game_share : FnScope ["one", "other", "worths"] ["one", "other", "worths"] (defScope s_game_share) := ⟨rfl, rfl, rfl, by decide +kernel, rfl, by decide +kernel, by decide +kernel⟩
theorem ok_game_share (d : Dfn K mg "game_share" s_game_share ["one", "other", "worths"]) (er : Errs K mg c_LadderError c_NoBook c_NoFit c_NoGame c_NoNumber c_NoPlayer c_NoRow c_NoStretch c_NoTable c_NoTree c_NoWorth)   (c_share : Cal P w K mg base "share" ["worth", "other", "side", "edge"] 3 (sp_share K ns)) : Cal P w K mg base "game_share" ["one", "other", "worths"] 4 (sp_game_share K ns) := by
  refine d.cal (k := 3) sc_game_share (fun vs H Q E h => ?_) (fun f cdv A outer s H vs Q E hr h => ?_)
  · match vs, h with
    | [.str x, .str y, .ref W], _ => rfl
  · match vs, h with
    | [.str x, .str y, .ref W], ⟨w, hW, k⟩ =>
      refine ⟨_, (@pss_one _ _ _ (@ps_ret _ _ _ _ (@e_call _ _ _ _ _ _ _ _ _ _ _ c_share hr (by decide) (by rfl) (@pa_cons _ _ _ _ _ (@e_tup _ _ _ _ _ (@pa_cons _ _ _ _ _ (@pe_dget _ _ _ _ _ _ (@u1 _ _ hr.units) (dv 2) (dv 0) (fun _ _ => rfl)) (@pa_cons _ _ _ _ _ pe_int pa_nil (by rfl)) (by rfl))) (@pa_cons _ _ _ _ _ (@e_tup _ _ _ _ _ (@pa_cons _ _ _ _ _ (@pe_dget _ _ _ _ _ _ (@u1 _ _ hr.units) (dv 2) (dv 1) (fun _ _ => rfl)) (@pa_cons _ _ _ _ _ pe_int pa_nil (by rfl)) (by rfl))) (@pa_cons _ _ _ _ _ pe_int (@pa_cons _ _ _ _ _ pe_non pa_nil (by rfl)) (by rfl)) (by rfl)) (by rfl)) (by decide) (by rfl) (by rfl)))), ?_⟩
      have wx := hW.2 x (by simp)
      have wy := hW.2 y (by simp)
      refine ⟨W, _, rfl, hW.get (by simp), fun P1 H1 s1 e1 => ⟨W, _, rfl, (hW.up s1).get (by simp), fun P2 H2 s2 e2 => ?_⟩⟩
      have bx : Bd 11 (w x) := bd_of (b := 999) (by omega) (by omega) (bd_lit rfl)
      have by' : Bd 11 (w y) := bd_of (b := 999) (by omega) (by omega) (bd_lit rfl)
      refine ⟨(w x, 1), (w y, 1), ⟨⟨s2 _ _ e1, (by show (0 : Int) < 1; decide), bx.mono (by decide), bd_lit rfl⟩, ⟨e2, (by show (0 : Int) < 1; decide), by'.mono (by decide), bd_lit rfl⟩, (by show 0 < w x; omega), (by show 0 < w y; omega)⟩, fun r H3 s3 f3 => ?_⟩
      have eA : odA (w x, 1) (w y, 1) (1, 1) 0 = w x := by simp [odA]
      have eB : odB (w x, 1) (w y, 1) (1, 1) 0 = w y := by simp [odB]
      rw [eA, eB] at f3
      obtain ⟨q, e, hq, eq⟩ := fr_lq (by omega) f3
      have hr : rq (w x) (w x + w y) = g2 w x y := by
        unfold rq g2
        rw [Rat.intCast_add]
      rw [hr] at hq
      refine k r q H3 (s1.trans (s2.trans s3)) e hq ?_ ?_ ?_
      · rw [eq]
        exact ⟨lowB_pos _ (by omega), lowT_pos (by omega)⟩
      · rw [eq]
        exact bd_lowT (bx.mono (by decide))
      · rw [eq]
        exact bd_lowB ((bx.add by').mono (by decide))
def sp_win_over (K : PySem.W.Frag) (ns : List Int) : Sp := fun vs H Q _ => match vs with
  | [.str x, .ref O, .ref W] => ∃ (l : List Str) (w : Str → Int) (F : Str → Rat) (f : Str → V) (o : Obj) (N : Int), (H O = some (.frz o (.dK (kvV l f))) ∧ (∀ y ∈ l, ∃ p, f y = .ref p ∧ FQ H p (F y)) ∧ WA H W (x :: l) w ∧ l.length ≤ 8) ∧ (0 < N ∧ Bd 300 N ∧ (∀ y ∈ l, ∃ k : Int, F y = rq k N) ∧ (∀ y ∈ l, 0 ≤ F y) ∧ sR F l ≤ 1) ∧ ∀ p H', Same H H' → FQ H' p (sR (fun y => F y * g2 w x y) l) → Q (.ref p) H'
  | _ => False
theorem sc_win_over : FnScope ["name", "others", "worths", "whole", "other"] ["name", "others", "worths"] (defScope s_win_over) := ⟨rfl, rfl, rfl, by decide +kernel, rfl, by decide +kernel, by decide +kernel⟩
theorem ok_win_over (d : Dfn K mg "win_over" s_win_over ["name", "others", "worths"]) (er : Errs K mg c_LadderError c_NoBook c_NoFit c_NoGame c_NoNumber c_NoPlayer c_NoRow c_NoStretch c_NoTable c_NoTree c_NoWorth)   (c_plus : Cal P w K mg base "plus" ["one", "other"] 3 (sp_plus K ns)) (c_times : Cal P w K mg base "times" ["one", "other"] 3 (sp_times K ns)) (c_game_share : Cal P w K mg base "game_share" ["one", "other", "worths"] 4 (sp_game_share K ns)) : Cal P w K mg base "win_over" ["name", "others", "worths"] 5 (sp_win_over K ns) := by
  refine d.cal (k := 4) sc_win_over (fun vs H Q E h => ?_) (fun f cdv A outer s H vs Q E hr h => ?_)
  · match vs, h with
    | [.str x, .ref O, .ref W], _ => rfl
  · match vs, h with
    | [.str x, .ref O, .ref W], ⟨l, w, F, f, o, N, ⟨hO, hf, hW, l8⟩, ⟨pN, bN, hN, F0, F1⟩, k⟩ =>
      refine ⟨_, (@pss_cons _ _ _ _ _ (@ps_set _ _ (3) _ _ _ _ sc_win_over.nd rfl (by first | exact Or.inl rfl | exact Or.inr rfl) (@e_tup _ _ _ _ _ (@pa_cons _ _ _ _ _ pe_int (@pa_cons _ _ _ _ _ pe_int pa_nil (by rfl)) (by rfl))) (by rfl) (by first | exact .inl rfl | exact .inr rfl | assumption)) (@pss_cons _ _ _ _ _ (@ps_for _ _ _ _ _ _ _ _ PassesOwn.never rfl (@pi_keysF _ _ _ _ (dv 1)) (@pg_name _ _ (4) _ sc_win_over.nd rfl (by first | exact Or.inl rfl | exact Or.inr rfl) (by first | exact .inl rfl | exact .inr rfl | assumption)) (@pss_one _ _ _ (@ps_set _ _ (3) _ _ _ _ sc_win_over.nd rfl (by first | exact Or.inl rfl | exact Or.inr rfl) (@e_call _ _ _ _ _ _ _ _ _ _ _ c_plus hr (by decide) (by rfl) (@pa_cons _ _ _ _ _ (dv 3) (@pa_cons _ _ _ _ _ (@e_call _ _ _ _ _ _ _ _ _ _ _ c_times hr (by decide) (by rfl) (@pa_cons _ _ _ _ _ (@pe_dget _ _ _ _ _ _ (@u1 _ _ hr.units) (dv 1) (dv 4) (fun _ _ => rfl)) (@pa_cons _ _ _ _ _ (@e_call _ _ _ _ _ _ _ _ _ _ _ c_game_share hr (by decide) (by rfl) (@pa_cons _ _ _ _ _ (dv 0) (@pa_cons _ _ _ _ _ (dv 4) (@pa_cons _ _ _ _ _ (dv 2) pa_nil (by rfl)) (by rfl)) (by rfl)) (by decide) (by rfl) (by rfl)) pa_nil (by rfl)) (by rfl)) (by decide) (by rfl) (by rfl)) pa_nil (by rfl)) (by rfl)) (by decide) (by rfl) (by rfl)) (by rfl) (by first | exact .inl rfl | exact .inr rfl | assumption))) (by intro _; rfl)) (@pss_one _ _ _ (@ps_ret _ _ _ _ (dv 3))))), ?_⟩
      have wx := (hW.2 x List.mem_cons_self).1
      have wl : ∀ y ∈ l, 1 ≤ w y := fun y hy => (hW.2 y (List.mem_cons_of_mem _ hy)).1
      refine fun P0 H0 s0 e0 => ?_
      have le1 : ∀ m : List Str, (∀ y ∈ m, y ∈ l) → sR (fun y => F y * g2 w x y) m ≤ sR F m ∧ 0 ≤ sR (fun y => F y * g2 w x y) m := fun m hm => by
        refine ⟨sR_le fun y hy => ?_, sR_nn fun y hy => ?_⟩
        · have a := F0 y (hm y hy)
          have b := (g2_pos wx (wl y (hm y hy))).2.1
          have := Rat.mul_le_mul_of_nonneg_left (Rat.le_of_lt b) a
          grind
        · exact Rat.mul_nonneg (F0 y (hm y hy)) (Rat.le_of_lt (g2_pos wx (wl y (hm y hy))).1)
      have kt0 := kt_of s0
      refine ⟨O, o, _, l, rfl, s0 _ _ hO, kvV_keys, ?_⟩
      refine for_keys kvV_keys (fun i σ H' => ∃ (p : Addr) (o4 : Option V), σ = [some (.str x), some (.ref O), some (.ref W), some (.ref p), o4] ∧ Same H H' ∧ FQ H' p (sR (fun y => F y * g2 w x y) (l.take i))) ⟨P0, none, rfl, s0, (0, 1), e0, ⟨0, 1, by decide, by decide, rq_zero'⟩, ⟨by decide, by decide⟩, bd_lit rfl, bd_lit rfl⟩ (fun i σ H' ⟨p, o4, _, s1, _⟩ => s1 _ _ hO) ?_ ?_
      · rintro i y σ H1 hy ⟨p, o4, rfl, s1, q1, eq1, lq1, ⟨pq1, pq1'⟩, bq1, bq1'⟩
        have my := List.mem_of_getElem? hy
        obtain ⟨py, ey, qy, eqy, lqy, ⟨pqy, pqy'⟩, bqy, bqy'⟩ := hf y my
        have rO : Rd H1 O (.dK (kvV l f)) := .inr ⟨o, s1 _ _ hO⟩
        have gy : DGet H1 O (.str y) (some (.ref py)) := by
          have := dget_r' (k := Sum.inr y) rO
          rw [kvV_val my, ey] at this
          exact this
        have eqy := s1 _ _ eqy
        refine ⟨O, _, rfl, gy, w, (hW.up s1).sub (fun z hz => ?_), fun ps qs H2 s2 es ls ⟨pss, pss'⟩ bs bs' => ?_⟩
        · rcases List.mem_cons.mp hz with rfl | hz
          · exact List.mem_cons_self
          · rw [List.mem_singleton.mp hz]
            exact List.mem_cons_of_mem _ my
        refine ⟨qy, qs, ⟨⟨s2 _ _ eqy, pqy, bqy.mono (by decide), bqy'.mono (by decide)⟩, ⟨es, pss, bs.mono (by decide), bs'.mono (by decide)⟩⟩, fun pt H3 s3 ft => ?_⟩
        have pb : 0 < qy.2 * qs.2 := Int.mul_pos pqy pss
        obtain ⟨qt, et, lt, eqt⟩ := fr_lq pb ft
        have bt : Bd 412 qt.1 := by rw [eqt]; exact bd_lowT (bqy.mul bs)
        have bt' : Bd 412 qt.2 := by rw [eqt]; exact bd_lowB (bqy'.mul bs')
        have pt' : 0 < qt.2 := by rw [eqt]; exact lowB_pos _ pb
        have vt : rq (qy.1 * qs.1) (qy.2 * qs.2) = F y * g2 w x y := by
          rw [← rq_times pqy pss, lq_rq lqy, lq_rq ls]
        rw [vt] at lt
        refine ⟨q1, qt, ⟨⟨(s2.trans s3) _ _ eq1, pq1, bq1.mono (by decide), bq1'.mono (by decide)⟩, ⟨et, pt', bt.mono (by decide), bt'.mono (by decide)⟩⟩, fun pw H4 s4 fw => ?_⟩
        obtain ⟨qw, ew, lw, _⟩ := fr_lq (Int.mul_pos pq1 pt') fw
        rw [rq_add pq1 pt', lq_rq lq1, lq_rq lt] at lw
        have tk : l.take (i + 1) = l.take i ++ [y] := by rw [List.take_add_one, hy]; rfl
        have es : sR (fun y => F y * g2 w x y) (l.take (i + 1)) = sR (fun y => F y * g2 w x y) (l.take i) + F y * g2 w x y := by
          rw [tk, sR_app]
          show _ + (F y * g2 w x y + 0) = _
          grind
        rw [← es] at lw
        have sub : ∀ z ∈ l.take (i + 1), z ∈ l := fun z hz => List.mem_of_mem_take hz
        obtain ⟨a1, a2⟩ := le1 _ sub
        have a3 : sR F (l.take (i + 1)) ≤ sR F l := by
          have e : sR F l = sR F (l.take (i + 1)) + sR F (l.drop (i + 1)) := by rw [← sR_app, List.take_append_drop]
          have := sR_nn (f := F) (l := l.drop (i + 1)) fun z hz => F0 z (List.mem_of_mem_drop hz)
          rw [e]
          grind
        obtain ⟨kk, ek⟩ := den_sum (w := w) (x := x) (f := F) pN wx (l := l.take (i + 1)) (fun z hz => wl z (sub z hz)) fun z hz => hN z (sub z hz)
        have pp : 0 < pr (fun o => w x + w o) (l.take (i + 1)) := pr_pos fun z hz => by
          have := wl z (sub z hz)
          omega
        have bp : Bd (11 * (l.take (i + 1)).length + 1) (pr (fun o => w x + w o) (l.take (i + 1))) := pr_bd fun z hz => by
          have := hW.2 x List.mem_cons_self
          have := hW.2 z (List.mem_cons_of_mem _ (sub z hz))
          exact bd_of (b := 1998) (by omega) (by omega) (bd_lit rfl)
        have ll : (l.take (i + 1)).length ≤ 8 := by rw [List.length_take]; omega
        obtain ⟨c1, c2, c3⟩ := lq_bd lw a2 (by grind) (Int.mul_pos pN pp) ((bN.mul bp).mono (show _ ≤ 400 by omega)) ek
        exact ⟨pw, _, rfl, s1.trans (s2.trans (s3.trans s4)), qw, ew, lw, c1, c2, c3⟩
      rintro σ H1 ⟨p, o4, rfl, s1, q1⟩
      rw [List.take_length] at q1
      exact k p H1 s1 q1
def NP (G : Str → Rat) (H : Hp) (x : Str) (y : V) : Prop := ∃ p pq, y = .ref p ∧ H p = some (.tup [.str x, .ref pq]) ∧ FQ H pq (G x)
theorem np_up {G : Str → Rat} (x : Str) (y : V) (H H' : Hp) (k : Kt H H') (h : NP G H x y) : NP G H' x y := by
  obtain ⟨p, pq, e, h1, h2⟩ := h
  exact ⟨p, pq, e, k _ _ h1, fq_up' k h2⟩
theorem np_fun {G : Str → Rat} {H : Hp} : ∀ {l : List Str} {ys : List V}, All2 (NP G H) l ys → l.Nodup → ∃ f : Str → V, Paired (fun v (kv : Key × V) => ∃ p, v = V.ref p ∧ H p = some (.tup [kV kv.1, kv.2])) ys (kvV l f) ∧ ∀ x ∈ l, ∃ p, f x = .ref p ∧ FQ H p (G x)
  | _, _, .nil, _ => ⟨fun _ => .non, .nil, fun x h => by simp at h⟩
  | _, _, .cons (a := x) (l := l) ⟨p, pq, e, h1, h2⟩ t, nd => by
    obtain ⟨nx, nl⟩ := List.nodup_cons.mp nd
    obtain ⟨f, hp, hf⟩ := np_fun t nl
    refine ⟨fun z => if z = x then .ref pq else f z, ?_, fun z hz => ?_⟩
    · have e2 : kvV l (fun z => if z = x then .ref pq else f z) = kvV l f := by
        unfold kvV
        refine List.map_congr_left fun z hz => ?_
        have ne : ¬ z = x := fun c => nx (by rw [← c]; exact hz)
        show (Sum.inr z, if z = x then V.ref pq else f z) = (Sum.inr z, f z)
        rw [if_neg ne]
      have e3 : kvV (x :: l) (fun z => if z = x then .ref pq else f z) = (Sum.inr x, .ref pq) :: kvV l f := by
        rw [← e2]
        show (Sum.inr x, if x = x then V.ref pq else f x) :: _ = _
        rw [if_pos rfl]
        rfl
      rw [e3]
      exact .cons ⟨p, e, h1⟩ hp
    · by_cases c : z = x
      · subst c
        exact ⟨pq, if_pos rfl, h2⟩
      · obtain ⟨p', h3, h4⟩ := hf z ((List.mem_cons.mp hz).resolve_left c)
        exact ⟨p', (if_neg c).trans h3, h4⟩
def sp_passed (K : PySem.W.Frag) (ns : List Int) : Sp := fun vs H Q _ => match vs with
  | [.ref A, .ref B, .ref W] => ∃ (la lb : List Str) (w : Str → Int) (FA FB : Str → Rat) (fa fb : Str → V) (oa ob : Obj) (N R : Int), (H A = some (.frz oa (.dK (kvV la fa))) ∧ H B = some (.frz ob (.dK (kvV lb fb))) ∧ (∀ y ∈ la, ∃ p, fa y = .ref p ∧ FQ H p (FA y)) ∧ (∀ y ∈ lb, ∃ p, fb y = .ref p ∧ FQ H p (FB y)) ∧ WA H W (la ++ lb) w ∧ la.length ≤ 8 ∧ lb.length ≤ 8 ∧ la.Nodup) ∧
    (0 < N ∧ Bd 300 N ∧ (∀ y ∈ lb, ∃ k : Int, FB y = rq k N) ∧ (∀ y ∈ lb, 0 ≤ FB y) ∧ sR FB lb ≤ 1) ∧ (0 < R ∧ Bd 400 R ∧ ∀ y ∈ la, 0 ≤ FA y * sR (fun o => FB o * g2 w y o) lb ∧ FA y * sR (fun o => FB o * g2 w y o) lb ≤ 1 ∧ ∃ k : Int, FA y * sR (fun o => FB o * g2 w y o) lb = rq k R) ∧
    ∀ D f H', Same H H' → H D = none → H' D = some (.dK (kvV la f)) → (∀ y ∈ la, ∃ p, f y = .ref p ∧ FQ H' p (FA y * sR (fun o => FB o * g2 w y o) lb)) → Q (.ref D) H'
  | _ => False
theorem sc_passed : FnScope ["own", "others", "worths"] ["own", "others", "worths"] (defScope s_passed) := ⟨rfl, rfl, rfl, by decide +kernel, rfl, by decide +kernel, by decide +kernel⟩
theorem ok_passed (d : Dfn K mg "passed" s_passed ["own", "others", "worths"]) (er : Errs K mg c_LadderError c_NoBook c_NoFit c_NoGame c_NoNumber c_NoPlayer c_NoRow c_NoStretch c_NoTable c_NoTree c_NoWorth) (n_dict : mg "dict" = none)  (c_times : Cal P w K mg base "times" ["one", "other"] 3 (sp_times K ns)) (c_win_over : Cal P w K mg base "win_over" ["name", "others", "worths"] 5 (sp_win_over K ns)) : Cal P w K mg base "passed" ["own", "others", "worths"] 6 (sp_passed K ns) := by
  refine d.cal (k := 5) sc_passed (fun vs H Q E h => ?_) (fun f cdv A outer s H vs Q E hr h => ?_)
  · match vs, h with
    | [.ref A, .ref B, .ref W], _ => rfl
  · match vs, h with
    | [.ref A, .ref B, .ref W], ⟨la, lb, w, FA, FB, fa, fb, oa, ob, N, R, ⟨hA, hB, ha, hb, hW, l8, l8', nda⟩, ⟨pN, bN, dN, F0, F1⟩, ⟨pR, bR, hR⟩, k⟩ =>
      refine ⟨_, (@pss_one _ _ _ (@ps_ret _ _ _ _ (@pe_callTy _ _ _ _ _ _ _ _ _ (@c_dictL _ rfl) (by rfl) n_dict (by decide +kernel) (@pa_cons _ _ _ _ _ (@e_compN _ _ _ _ _ _ _ _ _ _ ["name"] ["own", "others", "worths"] [0, 1, 2] rfl (@pi_keysF _ _ _ _ (dv 0)) (fun C s H fp => (@pg_name _ _ (0) _ (show List.Nodup [("name" : Str), ("own" : Str), ("others" : Str), ("worths" : Str)] by decide +kernel) rfl (by first | exact Or.inl rfl | exact Or.inr rfl) (by first | exact .inl rfl | exact .inr rfl | assumption))) (fun C s H fp => (@e_tup _ _ _ _ _ (@pa_cons _ _ _ _ _ (dv 0) (@pa_cons _ _ _ _ _ (@e_call _ _ _ _ _ _ _ _ _ _ _ c_times hr (by decide) (by rfl) (@pa_cons _ _ _ _ _ (@pe_dget _ _ _ _ _ _ (@u1 _ _ hr.units) (dv 1) (dv 0) (fun _ _ => rfl)) (@pa_cons _ _ _ _ _ (@e_call _ _ _ _ _ _ _ _ _ _ _ c_win_over hr (by decide) (by rfl) (@pa_cons _ _ _ _ _ (dv 0) (@pa_cons _ _ _ _ _ (dv 2) (@pa_cons _ _ _ _ _ (dv 3) pa_nil (by rfl)) (by rfl)) (by rfl)) (by decide) (by rfl) (by rfl)) pa_nil (by rfl)) (by rfl)) (by decide) (by rfl) (by rfl)) pa_nil (by rfl)) (by rfl)))) rfl rfl (by decide +kernel) (by decide +kernel) (by rfl) ⟨rfl, ⟨rfl, ⟨rfl, True.intro⟩⟩⟩ ⟨⟨rfl, rfl, rfl, rfl⟩, ⟨⟨rfl, rfl, rfl, rfl⟩, ⟨⟨rfl, rfl, rfl, rfl⟩, True.intro⟩⟩⟩ (by intro _; rfl)) pa_nil (by rfl)) (by decide) (by decide) (by rfl) (by rfl)))), ?_⟩
      refine ⟨A, oa, _, la, rfl, hA, kvV_keys, ?_⟩
      refine comp_keys (NP fun y => FA y * sR (fun o => FB o * g2 w y o) lb) np_up (by omega) hA kvV_keys ?_ ?_
      · intro x H2 hx s2 P hP
        obtain ⟨px, ex, qx, eqx, lqx, ⟨pqx, pqx'⟩, bqx, bqx'⟩ := ha x hx
        have rA : Rd H2 A (.dK (kvV la fa)) := .inr ⟨oa, s2 _ _ hA⟩
        have gx : DGet H2 A (.str x) (some (.ref px)) := by
          have := dget_r' (k := Sum.inr x) rA
          rw [kvV_val hx, ex] at this
          exact this
        refine ⟨rfl, A, _, rfl, gx, lb, w, FB, fb, ob, N, ⟨s2 _ _ hB, fun y hy => ?_, (hW.up s2).sub fun z hz => ?_, l8'⟩, ⟨pN, bN, dN, F0, F1⟩, fun pw H3 s3 ⟨qw, ew, lw, ⟨pqw, pqw'⟩, bqw, bqw'⟩ => ?_⟩
        · obtain ⟨p, h1, h2⟩ := hb y hy
          exact ⟨p, h1, fq_up' (kt_of s2) h2⟩
        · rcases List.mem_cons.mp hz with rfl | hz
          · exact List.mem_append_left _ hx
          · exact List.mem_append_right _ hz
        refine ⟨qx, qw, ⟨⟨(s2.trans s3) _ _ eqx, pqx, bqx.mono (by decide), bqx'.mono (by decide)⟩, ⟨ew, pqw, bqw.mono (by decide), bqw'.mono (by decide)⟩⟩, fun pt H4 s4 ft => ?_⟩
        obtain ⟨qt, et, lt, _⟩ := fr_lq (Int.mul_pos pqx pqw) ft
        rw [← rq_times pqx pqw, lq_rq lqx, lq_rq lw] at lt
        obtain ⟨r0, r1, kk, ek⟩ := hR x hx
        obtain ⟨c1, c2, c3⟩ := lq_bd lt r0 r1 pR bR ek
        refine fun T H5 s5 e5 => hP _ _ (s3.trans (s4.trans s5)) ⟨T, pt, rfl, e5, qt, s5 _ _ et, lt, c1, c2, c3⟩
      intro D0 H2 ys s2 _ e2 a2
      obtain ⟨f, hp, hf⟩ := np_fun a2 nda
      have kl : (kvV la f).length = la.length := by unfold kvV; rw [List.length_map]
      refine ⟨ys, kvV la f, SqL.of e2, hp, ?_, by rw [kl]; omega, fun D hD => ?_⟩
      · rw [kvV_keys]
        exact List.pairwise_map.mpr (List.Pairwise.imp (fun n e => n (Sum.inr.inj e)) nda)
      have s3 : Same H2 (upd H2 D (.dK (kvV la f))) := same_upd hD
      refine k D f _ (s2.trans s3) (none_back s2 hD) upd_same fun y hy => ?_
      obtain ⟨p, h1, h2⟩ := hf y hy
      exact ⟨p, h1, fq_up' (kt_of s3) h2⟩
theorem sR_one {f : Str → Rat} {x : Str} : ∀ {l : List Str}, (∀ y ∈ l, 0 ≤ f y) → x ∈ l → f x ≤ sR f l
  | y :: l, h, hx => by
    have a := h y List.mem_cons_self
    have b := sR_nn fun z hz => h z (List.mem_cons_of_mem _ hz)
    show f x ≤ f y + sR f l
    rcases List.mem_cons.mp hx with rfl | hx
    · grind
    · have := sR_one (fun z hz => h z (List.mem_cons_of_mem _ hz)) hx
      grind
theorem sh_le {w : Str → Int} {t : Tr} (nd : (lv t).Nodup) (h : Wk w (lv t)) {x : Str} (hx : x ∈ lv t) : 0 ≤ sh w t x ∧ sh w t x ≤ 1 := by
  have p := fun y hy => Rat.le_of_lt (sh_pos h y hy)
  refine ⟨p x hx, ?_⟩
  rw [← sh_one nd h]
  exact sR_one p hx
theorem sh_sum {w : Str → Int} {t : Tr} (nd : (lv t).Nodup) (h : Wk w (lv t)) : sR (sh w t) (lv t) ≤ 1 := by
  rw [sh_one nd h]
  exact Rat.le_refl
theorem prs_lt {t : Tr} (h : (lv t).length ≤ 7) : 13 * prs t + (lv t).length ≤ 300 := by
  have e := prs_eq t
  generalize (lv t).length = n at *
  have : n * n ≤ 7 * 7 := Nat.mul_le_mul h h
  have e7 : n ≤ 6 → n * n ≤ 6 * 6 := fun h => Nat.mul_le_mul h h
  by_cases h6 : n ≤ 6
  · have := e7 h6
    omega
  · have : n = 7 := by omega
    subst this
    omega
theorem mg_kv {f1 f2 : Str → V} : ∀ {lb la : List Str}, (la ++ lb).Nodup → mgV (kvV la f1) (kvV lb f2) = kvV (la ++ lb) fun y => if y ∈ la then f1 y else f2 y
  | [], la, _ => by
    show kvV la f1 = _
    rw [List.append_nil]
    unfold kvV
    refine List.map_congr_left fun z hz => ?_
    show _ = (Sum.inr z, if z ∈ la then f1 z else f2 z)
    rw [if_pos hz]
  | b :: lb, la, nd => by
    have nb : b ∉ la := fun c => (List.nodup_append.mp nd).2.2 b c b List.mem_cons_self rfl
    show mgV (putK (kvV la f1) (Sum.inr b) (f2 b)) (kvV lb f2) = _
    rw [kvV_new nb]
    have nd' : ((la ++ [b]) ++ lb).Nodup := by rw [List.append_assoc]; exact nd
    rw [mg_kv nd', List.append_assoc]
    show kvV (la ++ b :: lb) _ = kvV (la ++ b :: lb) _
    unfold kvV
    refine List.map_congr_left fun z hz => ?_
    show (Sum.inr z, if z ∈ la ++ [b] then (if z = b then f2 b else f1 z) else f2 z) = (Sum.inr z, if z ∈ la then f1 z else f2 z)
    by_cases c1 : z ∈ la
    · have ne : ¬ z = b := fun c => nb (by rw [← c]; exact c1)
      rw [if_pos (List.mem_append_left _ c1), if_neg ne, if_pos c1]
    · by_cases c2 : z = b
      · rw [if_pos (by rw [c2]; simp), if_pos c2, if_neg c1, c2]
      · have n3 : ¬ z ∈ la ++ [b] := fun h => by
          rcases List.mem_append.mp h with h | h
          · exact c1 h
          · exact c2 (List.mem_singleton.mp h)
        rw [if_neg n3, if_neg c1]
theorem a2_strs64 : ∀ (l : List Str), All2 (fun v m => v = V.str m) (l.map V.str) l
  | [] => .nil
  | _ :: l => .cons rfl (a2_strs64 l)
def spR_shares_of : Nat → PySem.W.Frag → List Int → Sp
  | 0, _, _ => fun _ _ _ _ => False
  | d + 1, K, ns => fun vs H Q _ => match vs with
    | [v, .ref W] => ∃ (t : Tr) (w : Str → Int), (TrAt H t v ∧ TOk t ∧ WA H W (lv t) w ∧ (lv t).length ≤ d + 1) ∧ ∀ D f H', Same H H' → H D = none → H' D = some (.dK (kvV (lv t) f)) → (∀ x ∈ lv t, ∃ p, f x = .ref p ∧ FQ H' p (sh w t x)) → Q (.ref D) H'
    | _ => False
def sp_shares_of (K : PySem.W.Frag) (ns : List Int) : Sp := spR_shares_of 8 K ns
theorem sc_shares_of : FnScope ["tree", "worths", "left", "right", "shares"] ["tree", "worths"] (defScope s_shares_of) := ⟨rfl, rfl, rfl, by decide +kernel, rfl, by decide +kernel, by decide +kernel⟩
theorem okS_shares_of (d : Dfn K mg "shares_of" s_shares_of ["tree", "worths"]) (er : Errs K mg c_LadderError c_NoBook c_NoFit c_NoGame c_NoNumber c_NoPlayer c_NoRow c_NoStretch c_NoTable c_NoTree c_NoWorth) (n_isinstance : mg "isinstance" = none) (n_str : mg "str" = none)  (c_passed : Cal P w K mg base "passed" ["own", "others", "worths"] 6 (sp_passed K ns))  (dd : Nat) (c_shares_of : Cal P w K mg base "shares_of" ["tree", "worths"] (7 + dd) (spR_shares_of dd K ns)) : Cal P w K mg base "shares_of" ["tree", "worths"] (7 + (dd + 1)) (spR_shares_of (dd + 1) K ns) := by
  refine d.cal (k := 7 + dd) sc_shares_of (fun vs H Q E h => ?_) (fun f cdv A outer s H vs Q E hr h => ?_)
  · match vs, h with
    | [v, .ref W], _ => rfl
  · match vs, h with
    | [v, .ref W], ⟨t, w, ⟨hT, ok, hW, ld⟩, k⟩ =>
      refine ⟨_, (@pss_cons _ _ _ _ _ (@s_if _ _ _ _ _ _ _ _ (@t_val _ _ _ (@pe_callB _ _ _ _ _ _ _ _ _ c_isi (by rfl) n_isinstance (by decide +kernel) (@pa_cons _ _ _ _ _ (dv 0) (@pa_cons _ _ _ _ _ (e_ty "str" (by rfl) n_str (by decide +kernel)) pa_nil (by rfl)) (by rfl)) (by decide) (by decide) (by rfl) (by rfl)) (by intro _; rfl)) (@pss_one _ _ _ (@ps_ret _ _ _ _ (@pe_disp _ _ _ _ _ (@pps_cons _ _ _ _ _ _ _ _ _ (dv 0) (@e_tup _ _ _ _ _ (@pa_cons _ _ _ _ _ pe_int (@pa_cons _ _ _ _ _ pe_int pa_nil (by rfl)) (by rfl))) pps_nil) rfl rfl (by simp) (by decide)))) pss_nil) (@pss_cons _ _ _ _ _ (@ps_set _ _ (2) _ _ _ _ sc_shares_of.nd rfl (by first | exact Or.inl rfl | exact Or.inr rfl) (@e_call _ _ _ _ _ _ _ _ _ _ _ c_shares_of hr (by omega) (by rfl) (@pa_cons _ _ _ _ _ (@pe_ix _ _ _ _ _ _ _ i_tup (dv 0) pe_int (fun _ _ => rfl)) (@pa_cons _ _ _ _ _ (dv 1) pa_nil (by rfl)) (by rfl)) (by decide) (by rfl) (by rfl)) (by rfl) (by first | exact .inl rfl | exact .inr rfl | assumption)) (@pss_cons _ _ _ _ _ (@ps_set _ _ (3) _ _ _ _ sc_shares_of.nd rfl (by first | exact Or.inl rfl | exact Or.inr rfl) (@e_call _ _ _ _ _ _ _ _ _ _ _ c_shares_of hr (by omega) (by rfl) (@pa_cons _ _ _ _ _ (@pe_ix _ _ _ _ _ _ _ i_tup (dv 0) pe_int (fun _ _ => rfl)) (@pa_cons _ _ _ _ _ (dv 1) pa_nil (by rfl)) (by rfl)) (by decide) (by rfl) (by rfl)) (by rfl) (by first | exact .inl rfl | exact .inr rfl | assumption)) (@ss_frz _ _ _ (@ss_frz _ _ _ (@pss_cons _ _ _ _ _ (@ps_set _ _ (4) _ _ _ _ sc_shares_of.nd rfl (by first | exact Or.inl rfl | exact Or.inr rfl) (@e_call _ _ _ _ _ _ _ _ _ _ _ c_passed hr (by omega) (by rfl) (@pa_cons _ _ _ _ _ (dv 2) (@pa_cons _ _ _ _ _ (dv 3) (@pa_cons _ _ _ _ _ (dv 1) pa_nil (by rfl)) (by rfl)) (by rfl)) (by decide) (by rfl) (by rfl)) (by rfl) (by first | exact .inl rfl | exact .inr rfl | assumption)) (@pss_cons _ _ _ _ _ (@ps_expr _ _ _ _ (@pe_dupd _ _ _ _ _ _ _ (dv 4) (@e_call _ _ _ _ _ _ _ _ _ _ _ c_passed hr (by omega) (by rfl) (@pa_cons _ _ _ _ _ (dv 3) (@pa_cons _ _ _ _ _ (dv 2) (@pa_cons _ _ _ _ _ (dv 1) pa_nil (by rfl)) (by rfl)) (by rfl)) (by decide) (by rfl) (by rfl)) ⟨by rfl, by rfl, by rfl, by rfl⟩) (by rfl)) (@pss_one _ _ _ (@ps_ret _ _ _ _ (dv 4)))))))))), ?_⟩
      cases t with
      | leaf s =>
        have hT : v = .str s := hT
        subst hT
        refine ⟨true, rfl, ⟨fun _ => ?_, fun h => nb h⟩⟩
        refine fun p0 hp0 => fun T H2 s2 e2 => ⟨s2 _ _ upd_same, [(Sum.inr s, .ref T)], rfl, (by show 1 ≤ 15; decide), ?_⟩
        have sp : Same H (upd H p0 (.dK [])) := same_upd hp0
        have ep : H2 p0 = some (.dK []) := s2 _ _ upd_same
        have k5 : Kt H2 (upd H2 p0 (.dK (kvV [s] fun _ => .ref T))) := fun q xs e => by
          have q1 : q ≠ p0 := fun c => by
            rw [c, ep] at e
            cases e
          rw [upd_ne q1]
          exact e
        refine k p0 (fun _ => .ref T) (upd H2 p0 (.dK (kvV [s] fun _ => .ref T))) (same_app' (sp.trans s2) hp0) hp0 upd_same fun x hx => ⟨T, rfl, (1, 1), k5 _ _ e2, ⟨1, 1, by decide, by decide, ?_⟩, ⟨by decide, by decide⟩, bd_lit rfl, bd_lit rfl⟩
        show ((1 : Int) : Rat) / ((1 : Int) : Rat) = 1
        simp
        grind
      | node l r =>
        obtain ⟨p, a, b, rfl, ep, ra, rb⟩ := hT
        have hl := lv_pos l
        have hr' := lv_pos r
        have ld : (lv l ++ lv r).length ≤ dd + 1 := ld
        have l8 : (lv l ++ lv r).length ≤ 8 := ok.len
        rw [List.length_append] at ld l8
        have nd : (lv l ++ lv r).Nodup := ok.nd
        have hW : WA H W (lv l ++ lv r) w := hW
        cases dd with
        | zero => omega
        | succ d' =>
          refine ⟨_, false, "tuple", ep, rfl, rfl, ⟨fun h => nb h, fun _ => ?_⟩⟩
          refine ⟨_, ep, l, w, ⟨ra, ok.left, hW.sub fun z hz => List.mem_append_left _ hz, by omega⟩, fun D1 f1 H1 s1 n1 e1 a1 => ?_⟩
          refine ⟨_, s1 _ _ ep, r, w, ⟨tr_up (kt_of s1) _ _ rb, ok.right, (hW.up s1).sub fun z hz => List.mem_append_right _ hz, by omega⟩, fun D2 f2 H2 s2 n2 e2 a2 => ?_⟩
          have n20 := none_back s1 n2
          have e1' := s2 _ _ e1
          have ne12 : D1 ≠ D2 := fun c => by rw [c, n2] at e1; cases e1
          refine ⟨D1, _, e1', fun o1 => ⟨D2, _, by rw [upd_ne (Ne.symm ne12)]; exact e2, fun o2 => ?_⟩⟩
          have sB : Same H (upd (upd H2 D1 (.frz o1 (.dK (kvV (lv l) f1)))) D2 (.frz o2 (.dK (kvV (lv r) f2)))) := same_app' (same_app' (s1.trans s2) n1) n20
          have kB : Kt H2 (upd (upd H2 D1 (.frz o1 (.dK (kvV (lv l) f1)))) D2 (.frz o2 (.dK (kvV (lv r) f2)))) := fun q xs e => by
            have q2 : q ≠ D2 := fun c => by
              rw [c, e2] at e
              cases e
            have q1 : q ≠ D1 := fun c => by
              rw [c, e1'] at e
              cases e
            rw [upd_ne q2, upd_ne q1]
            exact e
          have b1 : upd (upd H2 D1 (.frz o1 (.dK (kvV (lv l) f1)))) D2 (.frz o2 (.dK (kvV (lv r) f2))) D1 = some (.frz o1 (.dK (kvV (lv l) f1))) := by rw [upd_ne ne12, upd_same]
          have b2 : upd (upd H2 D1 (.frz o1 (.dK (kvV (lv l) f1)))) D2 (.frz o2 (.dK (kvV (lv r) f2))) D2 = some (.frz o2 (.dK (kvV (lv r) f2))) := upd_same
          have c1 : ∀ x ∈ lv l, ∃ p, f1 x = .ref p ∧ FQ (upd (upd H2 D1 (.frz o1 (.dK (kvV (lv l) f1)))) D2 (.frz o2 (.dK (kvV (lv r) f2)))) p (sh w l x) := fun x hx => by
            obtain ⟨p, h1, h2⟩ := a1 x hx
            exact ⟨p, h1, fq_up' kB (fq_up' (kt_of s2) h2)⟩
          have c2 : ∀ x ∈ lv r, ∃ p, f2 x = .ref p ∧ FQ (upd (upd H2 D1 (.frz o1 (.dK (kvV (lv l) f1)))) D2 (.frz o2 (.dK (kvV (lv r) f2)))) p (sh w r x) := fun x hx => by
            obtain ⟨p, h1, h2⟩ := a2 x hx
            exact ⟨p, h1, fq_up' kB h2⟩
          generalize upd (upd H2 D1 (.frz o1 (.dK (kvV (lv l) f1)))) D2 (.frz o2 (.dK (kvV (lv r) f2))) = B at sB b1 b2 c1 c2
          clear kB a1 a2 e1 e1' e2 s1 s2 n2
          obtain ⟨na, nb', nab⟩ := List.nodup_append.mp nd
          have wl : Wk w (lv l) := fun y hy => hW.2 y (List.mem_append_left _ hy)
          have wr : Wk w (lv r) := fun y hy => hW.2 y (List.mem_append_right _ hy)
          obtain ⟨Nl, pl, bl, dl⟩ := sh_den na wl
          obtain ⟨Nr, pr', br, dr⟩ := sh_den nb' wr
          obtain ⟨Nt, pt, bt, dt⟩ := sh_den (t := .node l r) nd hW.2
          have bl := bl.mono (prs_lt (t := l) (by omega))
          have br := br.mono (prs_lt (t := r) (by omega))
          have bt : Bd 400 Nt := bt.mono (by
            have := prs_le (t := .node l r) ok.len
            have := ok.len
            omega)
          have vl : ∀ y ∈ lv l, sh w l y * sR (fun o => sh w r o * g2 w y o) (lv r) = sh w (.node l r) y := fun y hy => (if_pos hy).symm
          have vr : ∀ y ∈ lv r, sh w r y * sR (fun o => sh w l o * g2 w y o) (lv l) = sh w (.node l r) y := fun y hy => (if_neg fun c => nab y c y hy rfl).symm
          have tl : ∀ y ∈ lv l, y ∈ lv (.node l r) := fun y hy => List.mem_append_left _ hy
          have tr' : ∀ y ∈ lv r, y ∈ lv (.node l r) := fun y hy => List.mem_append_right _ hy
          refine ⟨lv l, lv r, w, sh w l, sh w r, f1, f2, o1, o2, Nr, Nt, ⟨b1, b2, c1, c2, hW.up sB, by omega, by omega, na⟩, ⟨pr', br, dr, fun y hy => (sh_le nb' wr hy).1, sh_sum nb' wr⟩, ⟨pt, bt, fun y hy => ?_⟩, fun D3 f3 H3 s3 n3 e3 a3 => ?_⟩
          · rw [vl y hy]
            exact ⟨(sh_le (t := .node l r) nd hW.2 (tl y hy)).1, (sh_le (t := .node l r) nd hW.2 (tl y hy)).2, dt y (tl y hy)⟩
          have k3 := kt_of s3
          have hW' : WA H3 W (lv r ++ lv l) w := (hW.up (sB.trans s3)).sub fun z hz => by
            rcases List.mem_append.mp hz with h | h
            · exact List.mem_append_right _ h
            · exact List.mem_append_left _ h
          refine ⟨D3, rfl, .inl ⟨_, .inl e3⟩, lv r, lv l, w, sh w r, sh w l, f2, f1, o2, o1, Nl, Nt, ⟨s3 _ _ b2, s3 _ _ b1, fun x hx => ?_, fun x hx => ?_, hW', by omega, by omega, nb'⟩, ⟨pl, bl, dl, fun y hy => (sh_le na wl hy).1, sh_sum na wl⟩, ⟨pt, bt, fun y hy => ?_⟩, fun D4 f4 H4 s4 n4 e4 a4 => ?_⟩
          · obtain ⟨p, h1, h2⟩ := c2 x hx
            exact ⟨p, h1, fq_up' k3 h2⟩
          · obtain ⟨p, h1, h2⟩ := c1 x hx
            exact ⟨p, h1, fq_up' k3 h2⟩
          · rw [vr y hy]
            exact ⟨(sh_le (t := .node l r) nd hW.2 (tr' y hy)).1, (sh_le (t := .node l r) nd hW.2 (tr' y hy)).2, dt y (tr' y hy)⟩
          have ne34 : D3 ≠ D4 := fun c => by rw [c, n4] at e3; cases e3
          have lk : ∀ (m : List Str) (g : Str → V), (kvV m g).length = m.length := fun m g => by unfold kvV; rw [List.length_map]
          have e3' := s4 _ _ e3
          refine ⟨D4, _, _, rfl, ne34, e3', .inl e4, by rw [lk, lk]; omega, ?_⟩
          rw [mg_kv nd]
          have k5 : Kt H4 (upd H4 D3 (.dK (kvV (lv l ++ lv r) fun y => if y ∈ lv l then f3 y else f4 y))) := fun q xs e => by
            rw [upd_ne fun c => by rw [c, e3'] at e; cases e]
            exact e
          refine k D3 (fun y => if y ∈ lv l then f3 y else f4 y) _ (same_app' (sB.trans (s3.trans s4)) (none_back sB n3)) (none_back sB n3) upd_same fun y hy => ?_
          by_cases c : y ∈ lv l
          · obtain ⟨p, h1, h2⟩ := a3 y c
            refine ⟨p, (if_pos c).trans h1, ?_⟩
            rw [← vl y c]
            exact fq_up' k5 (fq_up' (kt_of s4) h2)
          · have cr : y ∈ lv r := (List.mem_append.mp hy).resolve_left c
            obtain ⟨p, h1, h2⟩ := a4 y cr
            refine ⟨p, (if_neg c).trans h1, ?_⟩
            rw [← vr y cr]
            exact fq_up' k5 h2
theorem okR_shares_of (d : Dfn K mg "shares_of" s_shares_of ["tree", "worths"]) (er : Errs K mg c_LadderError c_NoBook c_NoFit c_NoGame c_NoNumber c_NoPlayer c_NoRow c_NoStretch c_NoTable c_NoTree c_NoWorth) (n_isinstance : mg "isinstance" = none) (n_str : mg "str" = none)  (c_passed : Cal P w K mg base "passed" ["own", "others", "worths"] 6 (sp_passed K ns)) :  ∀ dd : Nat, Cal P w K mg base "shares_of" ["tree", "worths"] (7 + dd) (spR_shares_of dd K ns)
  | 0 => d.cal (k := 6) sc_shares_of (fun vs H Q E h => False.elim h) (fun f cdv A outer s H vs Q E hr h => False.elim h)
  | dd + 1 => okS_shares_of d er n_isinstance n_str c_passed dd (okR_shares_of d er n_isinstance n_str c_passed dd)
theorem ok_shares_of (d : Dfn K mg "shares_of" s_shares_of ["tree", "worths"]) (er : Errs K mg c_LadderError c_NoBook c_NoFit c_NoGame c_NoNumber c_NoPlayer c_NoRow c_NoStretch c_NoTable c_NoTree c_NoWorth) (n_isinstance : mg "isinstance" = none) (n_str : mg "str" = none)  (c_passed : Cal P w K mg base "passed" ["own", "others", "worths"] 6 (sp_passed K ns)) : Cal P w K mg base "shares_of" ["tree", "worths"] 15 (sp_shares_of K ns) := okR_shares_of d er n_isinstance n_str c_passed 8
def sp_check_worths (K : PySem.W.Frag) (ns : List Int) : Sp := fun vs H Q _ => match vs with
  | [.ref L, .ref W] => ∃ (l : List Str) (w : Str → Int), SqL K H L (l.map V.str) ∧ WA H W l w ∧ Q .non H
  | _ => False
theorem sc_check_worths : FnScope ["names", "worths", "name"] ["names", "worths"] (defScope s_check_worths) := ⟨rfl, rfl, rfl, by decide +kernel, rfl, by decide +kernel, by decide +kernel⟩
theorem ok_check_worths (d : Dfn K mg "check_worths" s_check_worths ["names", "worths"]) (er : Errs K mg c_LadderError c_NoBook c_NoFit c_NoGame c_NoNumber c_NoPlayer c_NoRow c_NoStretch c_NoTable c_NoTree c_NoWorth)    : Cal P w K mg base "check_worths" ["names", "worths"] 1 (sp_check_worths K ns) := by
  refine d.cal (k := 0) sc_check_worths (fun vs H Q E h => ?_) (fun f cdv A outer s H vs Q E hr h => ?_)
  · match vs, h with
    | [.ref L, .ref W], _ => rfl
  · match vs, h with
    | [.ref L, .ref W], ⟨l, w, hL, hW, k⟩ =>
      refine ⟨_, (@pss_one _ _ _ (@ps_for _ _ _ _ _ _ _ _ PassesOwn.never rfl (@pi_list _ _ _ _ (dv 0)) (@pg_name _ _ (2) _ sc_check_worths.nd rfl (by first | exact Or.inl rfl | exact Or.inr rfl) (by first | exact .inl rfl | exact .inr rfl | assumption)) (@pss_one _ _ _ (@s_if _ _ _ _ _ _ _ _ (@t_dnotin _ _ _ _ _ _ (@u1 _ _ hr.units) (dv 2) (dv 1) (by with_unfolding_all rfl)) (@pss_one _ _ _ ps_never) pss_nil)) (by intro _; rfl))), ?_⟩
      refine ⟨L, rfl, ⟨_, hL⟩, for_list (K := K) (a := L) (xs := l.map V.str) (fun i σ H' => ∃ o2 : Option V, σ = [some (.ref L), some (.ref W), o2] ∧ H' = H) ⟨none, rfl, rfl⟩ (fun i σ H' _ ⟨_, _, e⟩ => by rw [e]; exact hL) ?_ ?_⟩
      · rintro i v σ H' hv ⟨o2, rfl, rfl⟩
        rw [List.getElem?_map] at hv
        obtain ⟨x, hx, rfl⟩ := Option.map_eq_some_iff.mp hv
        exact ⟨W, _, rfl, hW.get (List.mem_of_getElem? hx), ⟨fun h => nb h, fun _ => ⟨_, rfl, rfl⟩⟩⟩
      · rintro σ H' ⟨o2, rfl, rfl⟩
        exact k
theorem srt_len {nm : List Str} (nd : nm.Nodup) : (srt nm).length = nm.length := by
  have a := nd_len nd fun x hx => mem_srt.mpr hx
  have b := nd_len (inc_nodup (inc_srt nm)) fun x hx => mem_srt.mp hx
  omega
theorem run_some : ∀ {vs : List V} {ns l : List Str}, run vs ns = some l → ∃ m : List Str, vs = m.map V.str ∧ l = ns ++ m ∧ (∀ x ∈ m, isNm (.str x) = true) ∧ (ns.Nodup → l.Nodup) ∧ (ns.length ≤ 8 → l.length ≤ 8)
  | [], ns, l, h => by
    cases h
    exact ⟨[], rfl, (List.append_nil _).symm, fun x h => by simp at h, fun h => h, fun h => h⟩
  | v :: vs, ns, l, h => by
    cases c1 : isNm v with
    | false =>
      rw [run_no c1] at h
      cases h
    | true =>
      obtain ⟨x, rfl⟩ := nm_str c1
      by_cases c2 : x ∈ ns
      · rw [run_in c2] at h
        cases h
      by_cases c3 : ns.length < 8
      rotate_left
      · rw [run_8 c3] at h
        cases h
      rw [run_ok c1 c2 c3] at h
      obtain ⟨m, h1, h2, h3, h4, h5⟩ := run_some (ns := ns ++ [x]) h
      refine ⟨x :: m, by rw [h1]; rfl, by rw [h2]; simp, fun y hy => ?_, fun nd => h4 ?_, fun _ => h5 ?_⟩
      · rcases List.mem_cons.mp hy with rfl | hy
        · exact c1
        · exact h3 y hy
      · rw [List.nodup_append]
        refine ⟨nd, by simp, fun a ha b hb e => ?_⟩
        rw [List.mem_singleton.mp hb] at e
        exact c2 (e ▸ ha)
      · rw [List.length_append]
        show ns.length + 1 ≤ 8
        omega
theorem run_tr : ∀ {m ns : List Str}, (∀ x ∈ m, isNm (.str x) = true) → (ns ++ m).Nodup → (ns ++ m).length ≤ 8 → run (m.map V.str) ns = some (ns ++ m)
  | [], ns, _, _, _ => by
    rw [List.append_nil]
    rfl
  | x :: m, ns, h, nd, l8 => by
    have nin : x ∉ ns := fun c => (List.nodup_append.mp nd).2.2 x c x List.mem_cons_self rfl
    have e : ns ++ x :: m = (ns ++ [x]) ++ m := by simp
    rw [e] at nd l8
    rw [List.length_append, List.length_append, List.length_singleton] at l8
    rw [List.map_cons, run_ok (h x List.mem_cons_self) nin (by omega), run_tr (fun y hy => h y (List.mem_cons_of_mem _ hy)) nd (by rw [List.length_append, List.length_append, List.length_singleton]; exact l8), e]
theorem run_none {vs : List V} (h : (∃ v ∈ vs, isNm v = false) ∨ ¬ vs.Nodup ∨ 8 < vs.length) : run vs [] = none := by
  cases e : run vs [] with
  | none => rfl
  | some l =>
    obtain ⟨m, rfl, h2, h3, h4, h5⟩ := run_some e
    rw [List.nil_append] at h2
    subst h2
    rcases h with ⟨v, hv, hn⟩ | h | h
    · obtain ⟨x, hx, rfl⟩ := List.mem_map.mp hv
      rw [h3 x hx] at hn
      cases hn
    · refine absurd ?_ h
      exact List.pairwise_map.mpr (List.Pairwise.imp (fun n e => n (V.str.inj e)) (h4 List.nodup_nil))
    · have := h5 (Nat.zero_le _)
      rw [List.length_map] at h
      omega
def thO : Tr → Th
  | .leaf s => .lf (.str s) (.str s)
  | .node l r => .nd (thO l) (thO r)
theorem lvT_O : ∀ t, lvT (thO t) = (lv t).map V.str
  | .leaf _ => rfl
  | .node l r => by
    show lvT (thO l) ++ lvT (thO r) = (lv l ++ lv r).map V.str
    rw [lvT_O l, lvT_O r, List.map_append]
theorem lf_str {K : PySem.W.Frag} {H : Hp} {s : Str} (h : s.length ≤ 1000) (h' : PyData.strOk s = true) : LfOk K H (.str s) (.str s) := ⟨True.intro, .inr ⟨True.intro, rfl⟩, fun z e => by cases e; exact h, .str s, h', Nat.zero_le _⟩
theorem nm_len {x : Str} (h : Nm x) : x.length ≤ 8 := by
  have := h.len8
  rw [co_len] at this
  exact this
theorem th_O {K : PySem.W.Frag} {H : Hp} : ∀ (t : Tr) (v : V), TrAt H t v → (∀ x ∈ lv t, Nm x) → ThAt K H (thO t) v
  | .leaf s, v, h, n => by
    have h : v = .str s := h
    subst h
    have n := n s (List.mem_singleton.mpr rfl)
    exact ⟨rfl, lf_str (Nat.le_trans (nm_len n) (by decide)) (nm_ok n)⟩
  | .node l r, v, ⟨p, a, b, e, h, h1, h2⟩, n => ⟨p, a, b, e, h, th_O l a h1 fun x hx => n x (List.mem_append_left _ hx), th_O r b h2 fun x hx => n x (List.mem_append_right _ hx)⟩
def sp_tree_shares (K : PySem.W.Frag) (ns : List Int) : Sp := fun vs H Q E => match vs with
  | [v, .ref W] => (∃ t, (ThAt K H t v ∧ (lvT t).length ≤ 40 ∧ run (lvT t) [] = none) ∧ ∀ H', Same H H' → ExN K "NoTree" E H') ∨ ∃ (t : Tr) (w : Str → Int), (TrAt H t v ∧ TOk t ∧ WA H W (lv t) w) ∧ ∀ L ys H', Same H H' → H L = none → H' L = some (.lst ys) → ys.length = (lv t).length → Q (.ref L) H'
  | _ => False
theorem sc_tree_shares : FnScope ["tree", "worths", "shares"] ["tree", "worths"] (defScope s_tree_shares) := ⟨rfl, rfl, rfl, by decide +kernel, rfl, by decide +kernel, by decide +kernel⟩
theorem ok_tree_shares (d : Dfn K mg "tree_shares" s_tree_shares ["tree", "worths"]) (er : Errs K mg c_LadderError c_NoBook c_NoFit c_NoGame c_NoNumber c_NoPlayer c_NoRow c_NoStretch c_NoTable c_NoTree c_NoWorth) (n_sorted : mg "sorted" = none)  (c_shares_of : Cal P w K mg base "shares_of" ["tree", "worths"] 15 (sp_shares_of K ns)) (c_check_worths : Cal P w K mg base "check_worths" ["names", "worths"] 1 (sp_check_worths K ns)) (c_leaves : Cal P w K mg base "leaves" ["tree"] 2 (sp_leaves K ns)) : Cal P w K mg base "tree_shares" ["tree", "worths"] 16 (sp_tree_shares K ns) := by
  refine d.calX (k := 15) sc_tree_shares (fun vs H Q E h => ?_) (fun f cdv A outer s H vs Q E hr h => ?_)
  · match vs, h with
    | [v, .ref W], _ => rfl
  · match vs, h with
    | [v, .ref W], hh =>
      refine ⟨_, (@pss_cons _ _ _ _ _ (@ps_expr _ _ _ _ (@e_call _ _ _ _ _ _ _ _ _ _ _ c_check_worths hr (by decide) (by rfl) (@pa_cons _ _ _ _ _ (@e_callX _ _ _ _ _ _ _ _ _ _ _ _ _ _ _ _ _ _ _ _ _ _ _ _ _ c_leaves hr (by decide) (by rfl) (@pa_cons _ _ _ _ _ (dv 0) pa_nil (by rfl)) (by decide) (by rfl) (by rfl)) (@pa_cons _ _ _ _ _ (dv 1) pa_nil (by rfl)) (by rfl)) (by decide) (by rfl) (by rfl)) (by rfl)) (@pss_cons _ _ _ _ _ (@ps_set _ _ (2) _ _ _ _ sc_tree_shares.nd rfl (by first | exact Or.inl rfl | exact Or.inr rfl) (@e_call _ _ _ _ _ _ _ _ _ _ _ c_shares_of hr (by decide) (by rfl) (@pa_cons _ _ _ _ _ (dv 0) (@pa_cons _ _ _ _ _ (dv 1) pa_nil (by rfl)) (by rfl)) (by decide) (by rfl) (by rfl)) (by rfl) (by first | exact .inl rfl | exact .inr rfl | assumption)) (@pss_one _ _ _ (@ps_ret _ _ _ _ (@e_compN _ _ _ _ _ _ _ _ _ _ ["name"] ["shares"] [2] rfl (@pi_list _ _ _ _ (@pe_callB _ _ _ _ _ _ _ _ _ c_sortD (by rfl) n_sorted (by decide +kernel) (@pa_cons _ _ _ _ _ (dv 2) pa_nil (by rfl)) (by decide) (by decide) (by rfl) (by rfl))) (fun C s H fp => (@pg_name _ _ (0) _ (show List.Nodup [("name" : Str), ("shares" : Str)] by decide +kernel) rfl (by first | exact Or.inl rfl | exact Or.inr rfl) (by first | exact .inl rfl | exact .inr rfl | assumption))) (fun C s H fp => (@e_tup _ _ _ _ _ (@pa_cons _ _ _ _ _ (dv 0) (@pa_cons _ _ _ _ _ (@pe_dget _ _ _ _ _ _ (@u1 _ _ hr.units) (dv 1) (dv 0) (fun _ _ => rfl)) pa_nil (by rfl)) (by rfl)))) rfl rfl (by decide +kernel) (by decide +kernel) (by rfl) ⟨rfl, True.intro⟩ ⟨⟨rfl, rfl, rfl, rfl⟩, True.intro⟩ (by intro _; rfl)))))), ?_⟩
      rcases hh with ⟨t, ⟨hT, l40, hn⟩, ex⟩ | ⟨t, w, ⟨hT, ok, hW⟩, k⟩
      · exact ⟨t, ⟨hT, l40⟩, fun _ => ex, fun l e => by rw [hn] at e; cases e⟩
      have ro : run (lvT (thO t)) [] = some (lv t) := by
        rw [lvT_O]
        exact run_tr (fun x hx => (ok.nm x hx).is) ok.nd ok.len
      refine ⟨thO t, ⟨th_O t v hT ok.nm, ?_⟩, fun e => ?_, fun l e D H1 s1 n1 e1 => ?_⟩
      · rw [lvT_O, List.length_map]
        have := ok.len
        omega
      · rw [ro] at e
        cases e
      rw [ro] at e
      cases e
      refine ⟨lv t, w, SqL.of e1, hW.up s1, ?_⟩
      refine ⟨t, w, ⟨tr_up (kt_of s1) _ _ hT, ok, hW.up s1, ok.len⟩, fun D2 f H2 s2 n2 e2 a2 => ?_⟩
      have l8 := ok.len
      refine ⟨kvV (lv t) f, lv t, e2, kvV_keys, by omega, ok.nd, fun L0 hL0 => ?_⟩
      have s3 : Same H2 (upd H2 L0 (.lst ((srt (lv t)).map V.str))) := same_upd hL0
      have e3 : upd H2 L0 (.lst ((srt (lv t)).map V.str)) L0 = some (.lst ((srt (lv t)).map V.str)) := upd_same
      generalize upd H2 L0 (.lst ((srt (lv t)).map V.str)) = H3 at s3 e3
      have sl : (srt (lv t)).length ≤ 8 := Nat.le_trans (nd_len (inc_nodup (inc_srt _)) fun x hx => mem_srt.mp hx) l8
      refine ⟨L0, rfl, ⟨_, SqL.of e3⟩, comp_abs (fun _ v (x : Str) => v = V.str x) (fun _ _ _ _ _ h => h) (NP (sh w t)) np_up (by rw [List.length_map]; omega) (SqL.of e3) (a2_strs64 _) ?_ ?_⟩
      · intro v x H4 hM hx s4 P hP
        subst hM
        have hx := mem_srt.mp hx
        obtain ⟨p, h1, h2⟩ := a2 x hx
        have s34 := s3.trans s4
        have gx : DGet H4 D2 (.str x) (some (.ref p)) := by
          have := dget_r' (k := Sum.inr x) (.inl (s34 _ _ e2))
          rw [kvV_val hx, h1] at this
          exact this
        exact ⟨rfl, D2, _, rfl, gx, fun T H5 s5 e5 => hP _ _ s5 ⟨T, p, rfl, e5, fq_up' (kt_of (s34.trans s5)) h2⟩⟩
      intro L H4 ys s4 n4 e4 a4
      refine k L ys H4 (s1.trans (s2.trans (s3.trans s4))) (none_back (s1.trans (s2.trans s3)) n4) e4 ?_
      rw [← a4.len]
      exact srt_len ok.nd
def sp_l_cell_at (K : PySem.W.Frag) (ns : List Int) : Sp := fun vs H Q _ => match vs with
  | [.ref a, .int k] => SqL K H a (ns.map V.int) ∧ 0 ≤ k ∧ ∀ c : Int, Q (.int c) H
  | _ => False
theorem sc_l_cell_at : FnScope ["_law_script", "_law_k"] ["_law_script", "_law_k"] (defScope s_l_cell_at) := ⟨rfl, rfl, rfl, by decide +kernel, rfl, by decide +kernel, by decide +kernel⟩
theorem ok_l_cell_at (d : Dfn K mg "_law_cell_at" s_l_cell_at ["_law_script", "_law_k"]) (er : Errs K mg c_LadderError c_NoBook c_NoFit c_NoGame c_NoNumber c_NoPlayer c_NoRow c_NoStretch c_NoTable c_NoTree c_NoWorth) (n_len : mg "len" = none)   : Cal P w K mg base "_law_cell_at" ["_law_script", "_law_k"] 1 (sp_l_cell_at K ns) := by
  refine d.cal (k := 0) sc_l_cell_at (fun vs H Q E h => ?_) (fun f cdv A outer s H vs Q E hr h => ?_)
  · match vs, h with
    | [.ref a, .int k], _ => rfl
  · match vs, h with
    | [.ref a, .int k], ⟨hS, k0, q⟩ =>
      refine ⟨_, (@pss_cons _ _ _ _ _ (@s_if _ _ _ _ _ _ _ _ (@t_cmp _ _ _ _ _ _ _ _ o_lt (dv 1) (@pe_callB _ _ _ _ _ _ _ _ _ c_len (by rfl) n_len (by decide +kernel) (@pa_cons _ _ _ _ _ (dv 0) pa_nil (by rfl)) (by decide) (by decide) (by rfl) (by rfl)) (@nomark _ _ (by decide) (by decide))) (@pss_one _ _ _ (@ps_ret _ _ _ _ (@pe_ix _ _ _ _ _ _ _ i_lst (dv 0) (dv 1) (fun _ _ => rfl)))) pss_nil) (@pss_one _ _ _ (@ps_ret _ _ _ _ pe_int))), ?_⟩
      refine ⟨_, .inl hS, ⟨fun h => ?_, fun _ => q 0⟩⟩
      have h := of_decide_eq_true h
      rw [List.length_map] at h
      obtain ⟨j, rfl⟩ := Int.eq_ofNat_of_zero_le k0
      have hj : j < ns.length := by omega
      refine ⟨_, .int ns[j], hS, atI_nat ?_, q _⟩
      rw [List.getElem?_map, List.getElem?_eq_getElem hj]
      rfl
def l12 : List Nat := [98, 113, 99, 120, 100, 108, 101, 110, 104, 117, 115, 118]
def b8 : List Nat := [103, 109, 116, 97, 122, 107, 102, 119]
theorem l12_get {n : Int} (h0 : 0 ≤ n % 12) (h1 : n % 12 < 12) : ∃ c, atI (Str.cps "bqcxdlenhusv").toList (n % 12) = some c ∧ l12[(n % 12).toNat]? = some c := by
  obtain ⟨j, hj⟩ := Int.eq_ofNat_of_zero_le h0
  rw [hj] at h1 ⊢
  have e : (Str.cps "bqcxdlenhusv").toList = l12 := by decide +kernel
  have hl : j < l12.length := by show j < 12; omega
  exact ⟨l12[j], by rw [e]; exact atI_nat (List.getElem?_eq_getElem hl), by rw [Int.toNat_natCast, List.getElem?_eq_getElem hl]⟩
def n8 (n p c : Nat) : List Nat := (b8.take n).take p ++ [c] ++ (b8.take n).drop (p + 1)
theorem n8_inj {n p c d : Nat} (h : n8 n p c = n8 n p d) : c = d := by
  unfold n8 at h
  rw [List.append_assoc, List.append_assoc] at h
  have h := List.append_cancel_left h
  simpa using h
theorem n8_len {n p c : Nat} (h : p < n) (h' : n ≤ 8) : (n8 n p c).length = n := by
  have : b8.length = 8 := rfl
  unfold n8
  rw [List.length_append, List.length_append, List.length_take, List.length_take, List.length_drop, List.length_take, List.length_singleton]
  omega
theorem n8_mem {n p c : Nat} (hc : c ∈ l12) : ∀ e ∈ n8 n p c, e ∈ b8 ∨ e ∈ l12 := by
  intro e he
  unfold n8 at he
  rcases List.mem_append.mp he with he | he
  · rcases List.mem_append.mp he with he | he
    · exact .inl (List.mem_of_mem_take (List.mem_of_mem_take he))
    · exact .inr (List.mem_singleton.mp he ▸ hc)
  · exact .inl (List.mem_of_mem_take (List.mem_of_mem_drop he))
theorem n8_no {n p c : Nat} (hc : c ∈ l12) : ∀ e ∈ n8 n p c, e ≠ 112 ∧ e ≠ 121 := fun e he => by
  have hb : ∀ x ∈ b8, x ≠ 112 ∧ x ≠ 121 := by decide
  have hl : ∀ x ∈ l12, x ≠ 112 ∧ x ≠ 121 := by decide
  exact (n8_mem hc e he).elim (hb e) (hl e)
theorem n8_abc {n p c : Nat} (hc : c ∈ l12) : ∀ e ∈ n8 n p c, 97 ≤ e ∧ e < 123 := by
  have hb : ∀ x ∈ b8, 97 ≤ x ∧ x < 123 := by decide
  have hl : ∀ x ∈ l12, 97 ≤ x ∧ x < 123 := by decide
  intro e he
  unfold n8 at he
  rcases List.mem_append.mp he with he | he
  · rcases List.mem_append.mp he with he | he
    · exact hb e (List.mem_of_mem_take (List.mem_of_mem_take he))
    · exact hl e (List.mem_singleton.mp he ▸ hc)
  · exact hb e (List.mem_of_mem_take (List.mem_of_mem_drop he))
structure N8 (x : Str) : Prop where
  nm : Nm x
  no : ∀ c ∈ co x, c ≠ 112 ∧ c ≠ 121
structure NL (nm : List Str) : Prop where
  nd : nm.Nodup
  ok : ∀ x ∈ nm, N8 x
def sp_l_names (K : PySem.W.Frag) (ns : List Int) : Sp := fun vs H Q _ => match vs with
  | [.int c, .int m] => (0 ≤ m ∧ m ≤ 8) ∧ ∀ L (nm : List Str) H', Same H H' → H L = none → H' L = some (.lst (nm.map V.str)) → (nm.length : Int) = m → NL nm → Q (.ref L) H'
  | _ => False
theorem sc_l_names : FnScope ["_law_cell", "_law_many", "_law_size", "_law_base", "_law_at", "_law_names_here", "_law_k", "_law_letter"] ["_law_cell", "_law_many"] (defScope s_l_names) := ⟨rfl, rfl, rfl, by decide +kernel, rfl, by decide +kernel, by decide +kernel⟩
theorem ok_l_names (d : Dfn K mg "_law_names" s_l_names ["_law_cell", "_law_many"]) (er : Errs K mg c_LadderError c_NoBook c_NoFit c_NoGame c_NoNumber c_NoPlayer c_NoRow c_NoStretch c_NoTable c_NoTree c_NoWorth) (n_range : mg "range" = none)   : Cal P w K mg base "_law_names" ["_law_cell", "_law_many"] 1 (sp_l_names K ns) := by
  refine d.cal (k := 0) sc_l_names (fun vs H Q E h => ?_) (fun f cdv A outer s H vs Q E hr h => ?_)
  · match vs, h with
    | [.int c, .int m], _ => rfl
  · match vs, h with
    | [.int c, .int m], ⟨⟨m0, m8⟩, q⟩ =>
      refine ⟨_, (@pss_cons _ _ _ _ _ (@ps_set _ _ (2) _ _ _ _ sc_l_names.nd rfl (by first | exact Or.inl rfl | exact Or.inr rfl) (@pe_op _ _ _ _ _ _ _ _ o_add pe_int (@pe_op _ _ _ _ _ _ _ _ o_mod (dv 0) pe_int)) (by rfl) (by first | exact .inl rfl | exact .inr rfl | assumption)) (@pss_cons _ _ _ _ _ (@ps_set _ _ (3) _ _ _ _ sc_l_names.nd rfl (by first | exact Or.inl rfl | exact Or.inr rfl) (@pe_slice _ _ _ _ _ _ _ _ _ _ sl_str pe_str po_none (po_some (dv 2))) (by rfl) (by first | exact .inl rfl | exact .inr rfl | assumption)) (@pss_cons _ _ _ _ _ (@ps_set _ _ (4) _ _ _ _ sc_l_names.nd rfl (by first | exact Or.inl rfl | exact Or.inr rfl) (@pe_op _ _ _ _ _ _ _ _ o_mod (@pe_op _ _ _ _ _ _ _ _ o_div (dv 0) pe_int) (dv 2)) (by rfl) (by first | exact .inl rfl | exact .inr rfl | assumption)) (@pss_cons _ _ _ _ _ (@ps_set _ _ (5) _ _ _ _ sc_l_names.nd rfl (by first | exact Or.inl rfl | exact Or.inr rfl) (@pe_lst _ _ _ _ pa_nil) (by rfl) (by first | exact .inl rfl | exact .inr rfl | assumption)) (@pss_cons _ _ _ _ _ (@ps_for _ _ _ _ _ _ _ _ PassesOwn.never rfl (@pi_range1 _ _ _ _ _ _ (by rfl) n_range (@pa_cons _ _ _ _ _ (dv 1) pa_nil (by rfl)) (by rfl)) (@pg_name _ _ (6) _ sc_l_names.nd rfl (by first | exact Or.inl rfl | exact Or.inr rfl) (by first | exact .inl rfl | exact .inr rfl | assumption)) (@pss_cons _ _ _ _ _ (@ps_set _ _ (7) _ _ _ _ sc_l_names.nd rfl (by first | exact Or.inl rfl | exact Or.inr rfl) (@pe_ix _ _ _ _ _ _ _ i_str pe_str (@pe_op _ _ _ _ _ _ _ _ o_mod (@pe_op _ _ _ _ _ _ _ _ o_add (@pe_op _ _ _ _ _ _ _ _ o_div (dv 0) pe_int) (@pe_op _ _ _ _ _ _ _ _ o_mul pe_int (dv 6))) pe_int) (fun _ _ => rfl)) (by rfl) (by first | exact .inl rfl | exact .inr rfl | assumption)) (@pss_one _ _ _ (@ps_expr _ _ _ _ (@pe_bm _ _ _ _ _ _ _ _ _ _ _ _ PySem.F.plainAttrs_list PySem.F.slot_list_append PySem.F.type_list_append mt_append (dv 5) (@pa_cons _ _ _ _ _ (@pe_op _ _ _ _ _ _ _ _ o_addS (@pe_op _ _ _ _ _ _ _ _ o_addS (@pe_slice _ _ _ _ _ _ _ _ _ _ sl_str (dv 3) po_none (po_some (dv 4))) (dv 7)) (@pe_slice _ _ _ _ _ _ _ _ _ _ sl_str (dv 3) (po_some (pe_op o_add (dv 4) pe_int)) po_none)) pa_nil (by rfl)) (by rfl) (by rfl) (by rfl) (by rfl) (by rfl)) (by rfl)))) (by intro _; rfl)) (@pss_one _ _ _ (@ps_ret _ _ _ _ (dv 5)))))))), ?_⟩
      have d8 : (0 : Int) < 8 := by decide
      have a0 := Int.emod_nonneg c (show (8 : Int) ≠ 0 by decide)
      have a1 := Int.emod_lt_of_pos c d8
      obtain ⟨n, hn⟩ : ∃ n : Nat, c % 8 = n := ⟨(c % 8).toNat, by omega⟩
      have hn8 : n < 8 := by omega
      have lb : (Str.ofString "gmtazkfw").length = 8 := by decide +kernel
      have cb : co (Str.ofString "gmtazkfw") = b8 := by decide +kernel
      refine ⟨d8, _, rfl, by rw [lb]; decide, ⟨by decide, bd_lit rfl⟩, by omega, by decide, fun D hD => ?_⟩
      have p0 := Int.emod_nonneg (c / 32) (show 1 + c % 8 ≠ 0 by omega)
      have p1 := Int.emod_lt_of_pos (c / 32) (show 0 < 1 + c % 8 by omega)
      obtain ⟨p, hp⟩ : ∃ p : Nat, c / 32 % (1 + c % 8) = p := ⟨(c / 32 % (1 + c % 8)).toNat, by omega⟩
      have hp1 : p < n + 1 := by omega
      have hsz : (1 : Int) + c % 8 = ((n + 1 : Nat) : Int) := by omega
      have cB : co (Txt.slice (Str.ofString "gmtazkfw") none (some (1 + c % 8))) = b8.take (n + 1) := by
        rw [hsz, co_to (by rw [lb]; omega), cb]
      generalize hB : Txt.slice (Str.ofString "gmtazkfw") none (some (1 + c % 8)) = B at cB
      have lB : B.length = n + 1 := by
        rw [← co_len, cB, List.length_take]
        show min (n + 1) 8 = n + 1
        omega
      have zB : B.length ≤ sizeLine := by rw [lB]; exact Nat.le_trans (show n + 1 ≤ 8 by omega) (by decide)
      refine ⟨m, rfl, by omega, by omega, for_range (lo := 0) (n := m.toNat) (fun i σ H' => ∃ (nm : List Str) (o1 o2 : Option V), σ = [some (.int c), some (.int m), some (.int (1 + c % 8)), some (.str B), some (.int (c / 32 % (1 + c % 8))), some (.ref D), o1, o2] ∧ H' = upd H D (.lst (nm.map V.str)) ∧ nm.length = i ∧ ∀ (j : Nat) x, nm[j]? = some x → ∃ e, co x = n8 (n + 1) p e ∧ l12[((c / 256 + 5 * (j : Int)) % 12).toNat]? = some e)
        ⟨[], none, none, by rw [← hB]; rfl, rfl, rfl, fun j x h => by simp at h⟩ ?_ ?_⟩
      · rintro i σ H' hi ⟨nm, o1, o2, rfl, rfl, hl, hall⟩
        have d12 : (0 : Int) < 12 := by decide
        have w0 := Int.emod_nonneg (c / 256 + 5 * (0 + (i : Int))) (show (12 : Int) ≠ 0 by decide)
        have w1 := Int.emod_lt_of_pos (c / 256 + 5 * (0 + (i : Int))) d12
        obtain ⟨e, he, he'⟩ := l12_get w0 w1
        refine ⟨⟨by decide, bd_lit rfl⟩, .inr (.inl ⟨by decide, by decide⟩), d12, e, by decide +kernel, he, .inl ⟨rfl, _, SqL.of upd_same⟩, ?_⟩
        have c1 : co (Txt.slice B none (some (c / 32 % (1 + c % 8)))) = (b8.take (n + 1)).take p := by rw [hp, co_to (by omega), cB]
        have c2 : co (Txt.slice B (some (c / 32 % (1 + c % 8) + 1)) none) = (b8.take (n + 1)).drop (p + 1) := by
          rw [show c / 32 % (1 + c % 8) + 1 = ((p + 1 : Nat) : Int) by omega, co_from (by omega), cB]
        have bl : (b8.take (n + 1)).length ≤ 8 := List.length_take_le' _ _
        have z1 : (Txt.slice B none (some (c / 32 % (1 + c % 8)))).length ≤ 8 := by
          rw [← co_len, c1]
          exact Nat.le_trans (List.length_take_le' _ _) bl
        have z2 : (Txt.slice B (some (c / 32 % (1 + c % 8) + 1)) none).length ≤ 8 := by
          rw [← co_len, c2, List.length_drop]
          omega
        have z3 : (⟨#[e]⟩ : Str).length = 1 := rfl
        refine ⟨_, rfl, zB, Nat.le_trans (Nat.add_le_add z1 (Nat.le_of_eq z3)) (by decide), _, rfl, zB, Nat.le_trans (Nat.add_le_add (by rw [len_app, z3]; exact Nat.add_le_add_right z1 1) z2) (by decide), D, _, _, rfl, rfl, upd_same, ?_, nm ++ [Txt.slice B none (some (c / 32 % (1 + c % 8))) ++ ⟨#[e]⟩ ++ Txt.slice B (some (c / 32 % (1 + c % 8) + 1)) none], _, _, rfl, ?_, ?_, fun j x hx => ?_⟩
        · rw [List.length_map, hl]
          exact Nat.lt_of_lt_of_le (show i < 8 by omega) (by decide)
        · rw [upd_upd, List.map_append]
          rfl
        · rw [List.length_append, hl]
          rfl
        · by_cases hj : j < nm.length
          · rw [List.getElem?_append_left hj] at hx
            exact hall j x hx
          · have ej : j = i := by
              have := (List.getElem?_eq_some_iff.mp hx).1
              rw [List.length_append, List.length_singleton] at this
              omega
            subst ej
            rw [List.getElem?_append_right (by omega), hl, Nat.sub_self] at hx
            cases hx
            refine ⟨e, ?_, by rw [Int.zero_add] at he'; exact he'⟩
            rw [co_app, co_app, c1, c2]
            rfl
      · rintro σ H' ⟨nm, o1, o2, rfl, rfl, hl, hall⟩
        refine q D nm _ (same_upd hD) hD upd_same (by omega) ⟨?_, fun x hx => ?_⟩
        · refine List.pairwise_iff_getElem.mpr fun i j hi hj lt e => ?_
          obtain ⟨x, h1, h2⟩ := hall i _ (List.getElem?_eq_getElem hi)
          obtain ⟨y, h3, h4⟩ := hall j _ (List.getElem?_eq_getElem hj)
          rw [e, h3] at h1
          have exy := n8_inj h1
          subst exy
          have r0 := Int.emod_nonneg (c / 256) (show (12 : Int) ≠ 0 by decide)
          have r1 := Int.emod_lt_of_pos (c / 256) (show (0 : Int) < 12 by decide)
          obtain ⟨r, hr⟩ : ∃ r : Nat, c / 256 % 12 = r := ⟨(c / 256 % 12).toNat, by omega⟩
          have e1 : ((c / 256 + 5 * (i : Int)) % 12).toNat = (r + 5 * i) % 12 := by omega
          have e2 : ((c / 256 + 5 * (j : Int)) % 12).toNat = (r + 5 * j) % 12 := by omega
          rw [e1] at h2
          rw [e2] at h4
          have ap : ∀ r < 12, ∀ i < 8, ∀ j < 8, l12[(r + 5 * i) % 12]? = l12[(r + 5 * j) % 12]? → i = j := by decide +kernel
          have := ap r (by omega) i (by omega) j (by omega) (h2.trans h4.symm)
          omega
        · obtain ⟨j, hj, rfl⟩ := List.mem_iff_getElem.mp hx
          obtain ⟨e, h1, h2⟩ := hall j _ (List.getElem?_eq_getElem hj)
          have hl := n8_len (c := e) hp1 (by omega)
          exact ⟨⟨by rw [h1, hl]; omega, by rw [h1, hl]; omega, by rw [h1]; exact n8_abc (List.mem_of_getElem? h2)⟩, by rw [h1]; exact n8_no (List.mem_of_getElem? h2)⟩
theorem cut_take {xs : List V} {j : Nat} (h : j ≤ xs.length) : cutV xs none (some (j : Int)) = xs.take j := by
  unfold cutV
  rw [HT.sIx_none, HT.sIx_nat, Nat.min_eq_left h, List.drop_zero, Nat.sub_zero]
theorem cut_drop {xs : List V} {j : Nat} (h : j ≤ xs.length) : cutV xs (some (j : Int)) none = xs.drop j := by
  unfold cutV
  rw [HT.sIx_none, HT.sIx_nat, Nat.min_eq_left h, List.take_of_length_le]
  rw [List.length_drop]
  exact Nat.le_refl _
def spR_l_tree : Nat → PySem.W.Frag → List Int → Sp
  | 0, _, _ => fun _ _ _ _ => False
  | d + 1, K, ns => fun vs H Q _ => match vs with
    | [.ref a, .ref L, .int p] => ∃ nm : List Str, (SqL K H a (ns.map V.int) ∧ SqL K H L (nm.map V.str) ∧ 1 ≤ nm.length ∧ nm.length ≤ d + 1 ∧ 0 ≤ p) ∧ ∀ v t H', Same H H' → TrAt H' t v → lv t = nm → Q v H'
    | _ => False
def sp_l_tree (K : PySem.W.Frag) (ns : List Int) : Sp := spR_l_tree 16 K ns
theorem sc_l_tree : FnScope ["_law_script", "_law_names_here", "_law_at", "_law_cut"] ["_law_script", "_law_names_here", "_law_at"] (defScope s_l_tree) := ⟨rfl, rfl, rfl, by decide +kernel, rfl, by decide +kernel, by decide +kernel⟩
theorem okS_l_tree (d : Dfn K mg "_law_tree" s_l_tree ["_law_script", "_law_names_here", "_law_at"]) (er : Errs K mg c_LadderError c_NoBook c_NoFit c_NoGame c_NoNumber c_NoPlayer c_NoRow c_NoStretch c_NoTable c_NoTree c_NoWorth) (n_len : mg "len" = none)  (c_l_cell_at : Cal P w K mg base "_law_cell_at" ["_law_script", "_law_k"] 1 (sp_l_cell_at K ns))  (dd : Nat) (c_l_tree : Cal P w K mg base "_law_tree" ["_law_script", "_law_names_here", "_law_at"] (2 + dd) (spR_l_tree dd K ns)) : Cal P w K mg base "_law_tree" ["_law_script", "_law_names_here", "_law_at"] (2 + (dd + 1)) (spR_l_tree (dd + 1) K ns) := by
  refine d.cal (k := 2 + dd) sc_l_tree (fun vs H Q E h => ?_) (fun f cdv A outer s H vs Q E hr h => ?_)
  · match vs, h with
    | [.ref a, .ref L, .int p], _ => rfl
  · match vs, h with
    | [.ref a, .ref L, .int p], ⟨nm, ⟨hS, hL, l1, ld, p0⟩, q⟩ =>
      refine ⟨_, (@pss_cons _ _ _ _ _ (@s_if _ _ _ _ _ _ _ _ (@t_cmp _ _ _ _ _ _ _ _ o_eq (@pe_callB _ _ _ _ _ _ _ _ _ c_len (by rfl) n_len (by decide +kernel) (@pa_cons _ _ _ _ _ (dv 1) pa_nil (by rfl)) (by decide) (by decide) (by rfl) (by rfl)) pe_int (@nomark _ _ (by decide) (by decide))) (@pss_one _ _ _ (@ps_ret _ _ _ _ (@pe_ix _ _ _ _ _ _ _ i_lst (dv 1) pe_int (fun _ _ => rfl)))) pss_nil) (@pss_cons _ _ _ _ _ (@ps_set _ _ (3) _ _ _ _ sc_l_tree.nd rfl (by first | exact Or.inl rfl | exact Or.inr rfl) (@pe_op _ _ _ _ _ _ _ _ o_add pe_int (@pe_op _ _ _ _ _ _ _ _ o_mod (@e_call _ _ _ _ _ _ _ _ _ _ _ c_l_cell_at hr (by omega) (by rfl) (@pa_cons _ _ _ _ _ (dv 0) (@pa_cons _ _ _ _ _ (@pe_op _ _ _ _ _ _ _ _ o_add pe_int (dv 2)) pa_nil (by rfl)) (by rfl)) (by decide) (by rfl) (by rfl)) (@pe_op _ _ _ _ _ _ _ _ o_sub (@pe_callB _ _ _ _ _ _ _ _ _ c_len (by rfl) n_len (by decide +kernel) (@pa_cons _ _ _ _ _ (dv 1) pa_nil (by rfl)) (by decide) (by decide) (by rfl) (by rfl)) pe_int))) (by rfl) (by first | exact .inl rfl | exact .inr rfl | assumption)) (@pss_one _ _ _ (@ps_ret _ _ _ _ (@e_tup _ _ _ _ _ (@pa_cons _ _ _ _ _ (@e_call _ _ _ _ _ _ _ _ _ _ _ c_l_tree hr (by omega) (by rfl) (@pa_cons _ _ _ _ _ (dv 0) (@pa_cons _ _ _ _ _ (@pe_slice _ _ _ _ _ _ _ _ _ _ sl_lst (dv 1) po_none (po_some (dv 3))) (@pa_cons _ _ _ _ _ (@pe_op _ _ _ _ _ _ _ _ o_add (@pe_op _ _ _ _ _ _ _ _ o_mul pe_int (dv 2)) pe_int) pa_nil (by rfl)) (by rfl)) (by rfl)) (by decide) (by rfl) (by rfl)) (@pa_cons _ _ _ _ _ (@e_call _ _ _ _ _ _ _ _ _ _ _ c_l_tree hr (by omega) (by rfl) (@pa_cons _ _ _ _ _ (dv 0) (@pa_cons _ _ _ _ _ (@pe_slice _ _ _ _ _ _ _ _ _ _ sl_lst (dv 1) (po_some (dv 3)) po_none) (@pa_cons _ _ _ _ _ (@pe_op _ _ _ _ _ _ _ _ o_add (@pe_op _ _ _ _ _ _ _ _ o_mul pe_int (dv 2)) pe_int) pa_nil (by rfl)) (by rfl)) (by rfl)) (by decide) (by rfl) (by rfl)) pa_nil (by rfl)) (by rfl))))))), ?_⟩
      refine ⟨_, .inl hL, ?_⟩
      rw [List.length_map]
      refine ⟨fun h => ?_, fun h => ?_⟩
      · have h : (nm.length : Int) = 1 := of_decide_eq_true h
        match nm, h, q with
        | [x], _, q => exact ⟨_, .str x, hL, rfl, q (.str x) (.leaf x) H (Same.refl _) rfl rfl⟩
      · have h : ¬ (nm.length : Int) = 1 := of_decide_eq_false h
        cases dd with
        | zero => omega
        | succ d' =>
          refine ⟨hS, by omega, fun c => ⟨_, .inl hL, ?_⟩⟩
          rw [List.length_map]
          refine ⟨by omega, ?_⟩
          have c0 := Int.emod_nonneg c (show (nm.length : Int) - 1 ≠ 0 by omega)
          have c1 := Int.emod_lt_of_pos c (show 0 < (nm.length : Int) - 1 by omega)
          obtain ⟨j, hj⟩ : ∃ j : Nat, 1 + c % ((nm.length : Int) - 1) = j := ⟨(1 + c % ((nm.length : Int) - 1)).toNat, by omega⟩
          have hj' : j ≤ (nm.map V.str).length := by rw [List.length_map]; omega
          refine ⟨_, rfl, _, hL, fun P1 H1 s1 f1 => ⟨.inr (.inl ⟨by decide, by decide⟩), nm.take j, ⟨s1.seq hS, SqL.of ?_, ?_, ?_, by omega⟩, fun v1 t1 H2 s2 r1 z1 => ?_⟩⟩
          · rw [f1, hj, cut_take hj', List.map_take]
          · rw [List.length_take]
            omega
          · rw [List.length_take]
            omega
          refine ⟨_, rfl, _, (s1.trans s2).seq hL, fun P2 H3 s3 f2 => ⟨.inr (.inl ⟨by decide, by decide⟩), nm.drop j, ⟨(s1.trans (s2.trans s3)).seq hS, SqL.of ?_, ?_, ?_, by omega⟩, fun v2 t2 H4 s4 r2 z2 => fun T H5 s5 e5 => ?_⟩⟩
          · rw [f2, hj, cut_drop hj', List.map_drop]
          · rw [List.length_drop]
            omega
          · rw [List.length_drop]
            omega
          refine q (.ref T) (.node t1 t2) H5 (s1.trans (s2.trans (s3.trans (s4.trans s5)))) ⟨T, v1, v2, rfl, e5, tr_up (kt_of (s3.trans (s4.trans s5))) _ _ r1, tr_up (kt_of s5) _ _ r2⟩ ?_
          show lv t1 ++ lv t2 = nm
          rw [z1, z2, List.take_append_drop]
theorem okR_l_tree (d : Dfn K mg "_law_tree" s_l_tree ["_law_script", "_law_names_here", "_law_at"]) (er : Errs K mg c_LadderError c_NoBook c_NoFit c_NoGame c_NoNumber c_NoPlayer c_NoRow c_NoStretch c_NoTable c_NoTree c_NoWorth) (n_len : mg "len" = none)  (c_l_cell_at : Cal P w K mg base "_law_cell_at" ["_law_script", "_law_k"] 1 (sp_l_cell_at K ns)) :  ∀ dd : Nat, Cal P w K mg base "_law_tree" ["_law_script", "_law_names_here", "_law_at"] (2 + dd) (spR_l_tree dd K ns)
  | 0 => d.cal (k := 1) sc_l_tree (fun vs H Q E h => False.elim h) (fun f cdv A outer s H vs Q E hr h => False.elim h)
  | dd + 1 => okS_l_tree d er n_len c_l_cell_at dd (okR_l_tree d er n_len c_l_cell_at dd)
theorem ok_l_tree (d : Dfn K mg "_law_tree" s_l_tree ["_law_script", "_law_names_here", "_law_at"]) (er : Errs K mg c_LadderError c_NoBook c_NoFit c_NoGame c_NoNumber c_NoPlayer c_NoRow c_NoStretch c_NoTable c_NoTree c_NoWorth) (n_len : mg "len" = none)  (c_l_cell_at : Cal P w K mg base "_law_cell_at" ["_law_script", "_law_k"] 1 (sp_l_cell_at K ns)) : Cal P w K mg base "_law_tree" ["_law_script", "_law_names_here", "_law_at"] 18 (sp_l_tree K ns) := okR_l_tree d er n_len c_l_cell_at 16
def putT (g : Str) (to : Th) : Tr → Th
  | .leaf s => if s = g then to else .lf (.str s) (.str s)
  | .node l r => .nd (putT g to l) (putT g to r)
theorem eqv_str1 {a b : Str} : PyData.eqv (.str a) (.str b) = decide (a = b) := by
  show (a == b) = decide (a = b)
  exact Bool.beq_eq_decide_eq a b
theorem put_sub {g : Str} {to : Th} : ∀ {t : Tr}, g ∈ lv t → (lvT to).Sublist (lvT (putT g to t))
  | .leaf s, h => by
    have e : s = g := (List.mem_singleton.mp h).symm
    show (lvT to).Sublist (lvT (if s = g then to else _))
    rw [if_pos e]
    exact List.Sublist.refl _
  | .node l r, h => by
    show (lvT to).Sublist (lvT (putT g to l) ++ lvT (putT g to r))
    rcases List.mem_append.mp h with h | h
    · exact (put_sub h).trans (List.sublist_append_left _ _)
    · exact (put_sub h).trans (List.sublist_append_right _ _)
theorem put_len {g : Str} {to : Th} (h : (lvT to).length ≤ 2) : ∀ t : Tr, (lvT (putT g to t)).length ≤ 2 * (lv t).length
  | .leaf s => by
    show (lvT (if s = g then to else .lf (.str s) (.str s))).length ≤ 2
    split
    · exact h
    · exact (by decide : (1 : Nat) ≤ 2)
  | .node l r => by
    show (lvT (putT g to l) ++ lvT (putT g to r)).length ≤ 2 * (lv l ++ lv r).length
    have := put_len (g := g) h l
    have := put_len (g := g) h r
    rw [List.length_append, List.length_append]
    omega
theorem sh_td {t : Tr} (l8 : (lv t).length ≤ 8) (n : ∀ x ∈ lv t, Nm x) : SeqAt.shaped (td t) = true := by
  unfold SeqAt.shaped
  rw [td_lay t fun x hx => nm_ok (n x hx), Bool.true_and]
  have := td_depth t
  exact decide_eq_true (by omega)
def spR_l_put : Nat → PySem.W.Frag → List Int → Sp
  | 0, _, _ => fun _ _ _ _ => False
  | d + 1, K, ns => fun vs H Q _ => match vs with
    | [v, .str g, o] => ∃ (t : Tr) (to : Th), (TrAt H t v ∧ (lv t).length ≤ d + 1 ∧ (lv t).length ≤ 8 ∧ (∀ x ∈ lv t, Nm x) ∧ Nm g ∧ ThAt K H to o) ∧ ∀ v' H', Same H H' → ThAt K H' (putT g to t) v' → Q v' H'
    | _ => False
def sp_l_put (K : PySem.W.Frag) (ns : List Int) : Sp := spR_l_put 16 K ns
theorem sc_l_put : FnScope ["_law_tree_here", "_law_goal", "_law_odd_here"] ["_law_tree_here", "_law_goal", "_law_odd_here"] (defScope s_l_put) := ⟨rfl, rfl, rfl, by decide +kernel, rfl, by decide +kernel, by decide +kernel⟩
theorem okS_l_put (d : Dfn K mg "_law_put" s_l_put ["_law_tree_here", "_law_goal", "_law_odd_here"]) (er : Errs K mg c_LadderError c_NoBook c_NoFit c_NoGame c_NoNumber c_NoPlayer c_NoRow c_NoStretch c_NoTable c_NoTree c_NoWorth) (n_isinstance : mg "isinstance" = none) (n_str : mg "str" = none)    (dd : Nat) (c_l_put : Cal P w K mg base "_law_put" ["_law_tree_here", "_law_goal", "_law_odd_here"] (1 + dd) (spR_l_put dd K ns)) : Cal P w K mg base "_law_put" ["_law_tree_here", "_law_goal", "_law_odd_here"] (1 + (dd + 1)) (spR_l_put (dd + 1) K ns) := by
  refine d.cal (k := 1 + dd) sc_l_put (fun vs H Q E h => ?_) (fun f cdv A outer s H vs Q E hr h => ?_)
  · match vs, h with
    | [v, .str g, o], _ => rfl
  · match vs, h with
    | [v, .str g, o], ⟨t, to, ⟨hT, ld, l8, nm, ng, hO⟩, q⟩ =>
      refine ⟨_, (@pss_cons _ _ _ _ _ (@s_if _ _ _ _ _ _ _ _ (@t_cmp _ _ _ _ _ _ _ _ (@o_eqD _ hr.units) (dv 0) (dv 1) (@nomark _ _ (by decide) (by decide))) (@pss_one _ _ _ (@ps_ret _ _ _ _ (dv 2))) pss_nil) (@pss_cons _ _ _ _ _ (@s_if _ _ _ _ _ _ _ _ (@t_val _ _ _ (@pe_callB _ _ _ _ _ _ _ _ _ c_isi (by rfl) n_isinstance (by decide +kernel) (@pa_cons _ _ _ _ _ (dv 0) (@pa_cons _ _ _ _ _ (e_ty "str" (by rfl) n_str (by decide +kernel)) pa_nil (by rfl)) (by rfl)) (by decide) (by decide) (by rfl) (by rfl)) (by intro _; rfl)) (@pss_one _ _ _ (@ps_ret _ _ _ _ (dv 0))) pss_nil) (@pss_one _ _ _ (@ps_ret _ _ _ _ (@e_tup _ _ _ _ _ (@pa_cons _ _ _ _ _ (@e_call _ _ _ _ _ _ _ _ _ _ _ c_l_put hr (by omega) (by rfl) (@pa_cons _ _ _ _ _ (@pe_ix _ _ _ _ _ _ _ i_tup (dv 0) pe_int (fun _ _ => rfl)) (@pa_cons _ _ _ _ _ (dv 1) (@pa_cons _ _ _ _ _ (dv 2) pa_nil (by rfl)) (by rfl)) (by rfl)) (by decide) (by rfl) (by rfl)) (@pa_cons _ _ _ _ _ (@e_call _ _ _ _ _ _ _ _ _ _ _ c_l_put hr (by omega) (by rfl) (@pa_cons _ _ _ _ _ (@pe_ix _ _ _ _ _ _ _ i_tup (dv 0) pe_int (fun _ _ => rfl)) (@pa_cons _ _ _ _ _ (dv 1) (@pa_cons _ _ _ _ _ (dv 2) pa_nil (by rfl)) (by rfl)) (by rfl)) (by decide) (by rfl) (by rfl)) pa_nil (by rfl)) (by rfl))))))), ?_⟩
      refine ⟨_, _, rp_tr t v hT, .str g, sh_td l8 nm, sh_td (t := .leaf g) (show 1 ≤ 8 by decide) (fun x hx => List.mem_singleton.mp hx ▸ ng), ?_⟩
      cases t with
      | leaf s =>
        have hT : v = .str s := hT
        subst hT
        rw [show PyData.eqv (td (.leaf s)) (.str g) = decide (s = g) from eqv_str1]
        refine ⟨fun h => q o H (Same.refl _) ?_, fun h => ⟨true, rfl, ⟨fun _ => q (.str s) H (Same.refl _) ?_, fun h => nb h⟩⟩⟩
        · show ThAt K H (if s = g then to else _) o
          rw [if_pos (of_decide_eq_true h)]
          exact hO
        · show ThAt K H (if s = g then to else _) (.str s)
          rw [if_neg (of_decide_eq_false h)]
          exact th_O (.leaf s) _ rfl nm
      | node l r =>
        obtain ⟨p, a, b, rfl, ep, ra, rb⟩ := hT
        have hl := lv_pos l
        have hr' := lv_pos r
        have ld : (lv l ++ lv r).length ≤ dd + 1 := ld
        have l8 : (lv l ++ lv r).length ≤ 8 := l8
        rw [List.length_append] at ld l8
        cases dd with
        | zero => omega
        | succ d' =>
          refine ⟨fun h => nb h, fun _ => ⟨_, false, "tuple", ep, rfl, rfl, ⟨fun h => nb h, fun _ => ?_⟩⟩⟩
          refine ⟨_, ep, l, to, ⟨ra, by omega, by omega, fun x hx => nm x (List.mem_append_left _ hx), ng, hO⟩, fun v1 H1 s1 t1 => ⟨_, s1 _ _ ep, r, to, ⟨tr_up (kt_of s1) _ _ rb, by omega, by omega, fun x hx => nm x (List.mem_append_right _ hx), ng, th_up s1 _ _ hO⟩, fun v2 H2 s2 t2 T H3 s3 e3 => ?_⟩⟩
          exact q _ H3 (s1.trans (s2.trans s3)) ⟨T, v1, v2, rfl, e3, th_up (s2.trans s3) _ _ t1, th_up s3 _ _ t2⟩
theorem okR_l_put (d : Dfn K mg "_law_put" s_l_put ["_law_tree_here", "_law_goal", "_law_odd_here"]) (er : Errs K mg c_LadderError c_NoBook c_NoFit c_NoGame c_NoNumber c_NoPlayer c_NoRow c_NoStretch c_NoTable c_NoTree c_NoWorth) (n_isinstance : mg "isinstance" = none) (n_str : mg "str" = none)   :  ∀ dd : Nat, Cal P w K mg base "_law_put" ["_law_tree_here", "_law_goal", "_law_odd_here"] (1 + dd) (spR_l_put dd K ns)
  | 0 => d.cal (k := 0) sc_l_put (fun vs H Q E h => False.elim h) (fun f cdv A outer s H vs Q E hr h => False.elim h)
  | dd + 1 => okS_l_put d er n_isinstance n_str dd (okR_l_put d er n_isinstance n_str dd)
theorem ok_l_put (d : Dfn K mg "_law_put" s_l_put ["_law_tree_here", "_law_goal", "_law_odd_here"]) (er : Errs K mg c_LadderError c_NoBook c_NoFit c_NoGame c_NoNumber c_NoPlayer c_NoRow c_NoStretch c_NoTable c_NoTree c_NoWorth) (n_isinstance : mg "isinstance" = none) (n_str : mg "str" = none)   : Cal P w K mg base "_law_put" ["_law_tree_here", "_law_goal", "_law_odd_here"] 17 (sp_l_put K ns) := okR_l_put d er n_isinstance n_str 16
structure OddT (t : Th) : Prop where
  len : (lvT t).length ≤ 2
  bad : (∃ v ∈ lvT t, isNm v = false) ∨ ¬ (lvT t).Nodup
theorem not_nm {z : Str} {e : Nat} (h : e ∈ co z) (h' : e < 97) : isNm (.str z) = false := by
  show isNmS z = false
  unfold isNmS
  have : ((co z).all fun c => decide (c ∈ co abc)) = false := by
    rw [List.all_eq_false]
    refine ⟨e, h, fun c => ?_⟩
    have := abc_mem.mp (of_decide_eq_true c)
    omega
  rw [this, Bool.and_false]
theorem lf_odd {v : V} {d : PyData} (h : isNm v = false) : OddT (.lf v d) := ⟨(by decide : (1 : Nat) ≤ 2), .inl ⟨v, List.mem_singleton.mpr rfl, h⟩⟩
theorem str_odd {K : PySem.W.Frag} {H : Hp} {z : Str} (l : z.length ≤ 1000) (lt : ∀ c ∈ co z, c < 123) (h : isNm (.str z) = false) : ∃ t, ThAt K H t (.str z) ∧ OddT t := ⟨.lf (.str z) (.str z), ⟨rfl, lf_str l (ok_of fun c hc => by have := lt c hc; omega)⟩, lf_odd h⟩
def sp_l_odd (K : PySem.W.Frag) (ns : List Int) : Sp := fun vs H Q _ => match vs with
  | [.int k, .int c, .str x] => (0 ≤ k ∧ k < 15 ∧ Nm x) ∧ ∀ v t H', Same H H' → ThAt K H' t v → OddT t → Q v H'
  | _ => False
theorem sc_l_odd : FnScope ["_law_kind", "_law_cell", "_law_one", "_law_some"] ["_law_kind", "_law_cell", "_law_one"] (defScope s_l_odd) := ⟨rfl, rfl, rfl, by decide +kernel, rfl, by decide +kernel, by decide +kernel⟩
theorem ok_l_odd (d : Dfn K mg "_law_odd" s_l_odd ["_law_kind", "_law_cell", "_law_one"]) (er : Errs K mg c_LadderError c_NoBook c_NoFit c_NoGame c_NoNumber c_NoPlayer c_NoRow c_NoStretch c_NoTable c_NoTree c_NoWorth)    : Cal P w K mg base "_law_odd" ["_law_kind", "_law_cell", "_law_one"] 1 (sp_l_odd K ns) := by
  refine d.cal (k := 0) sc_l_odd (fun vs H Q E h => ?_) (fun f cdv A outer s H vs Q E hr h => ?_)
  · match vs, h with
    | [.int k, .int c, .str x], _ => rfl
  · match vs, h with
    | [.int k, .int c, .str x], ⟨⟨k0, k15, nx⟩, q⟩ =>
      refine ⟨_, (@pss_cons _ _ _ _ _ (@ps_set _ _ (3) _ _ _ _ sc_l_odd.nd rfl (by first | exact Or.inl rfl | exact Or.inr rfl) (@e_lst _ _ _ _ (@pa_cons _ _ _ _ _ pe_str (@pa_cons _ _ _ _ _ pe_str (@pa_cons _ _ _ _ _ (@pe_op _ _ _ _ _ _ _ _ o_addS (@pe_slice _ _ _ _ _ _ _ _ _ _ sl_str (dv 2) po_none (po_some (pe_un u_neg pe_int))) pe_str) (@pa_cons _ _ _ _ _ (@pe_op _ _ _ _ _ _ _ _ o_addS (@pe_slice _ _ _ _ _ _ _ _ _ _ sl_str (dv 2) po_none (po_some pe_int)) pe_str) (@pa_cons _ _ _ _ _ (@pe_op _ _ _ _ _ _ _ _ o_addS (@pe_op _ _ _ _ _ _ _ _ o_addS (@pe_slice _ _ _ _ _ _ _ _ _ _ sl_str (dv 2) po_none (po_some pe_int)) pe_str) (@pe_slice _ _ _ _ _ _ _ _ _ _ sl_str (dv 2) (po_some pe_int) (po_some pe_int))) (@pa_cons _ _ _ _ _ (@pe_op _ _ _ _ _ _ _ _ o_addS (@pe_slice _ _ _ _ _ _ _ _ _ _ sl_str (dv 2) po_none (po_some pe_int)) pe_str) (@pa_cons _ _ _ _ _ (@pe_op _ _ _ _ _ _ _ _ o_mod (dv 1) pe_int) (@pa_cons _ _ _ _ _ pe_non pa_nil (by rfl)) (by rfl)) (by rfl)) (by rfl)) (by rfl)) (by rfl)) (by rfl)) (by rfl))) (by rfl) (by first | exact .inl rfl | exact .inr rfl | assumption)) (@pss_cons _ _ _ _ _ (@ps_set _ _ (3) _ _ _ _ sc_l_odd.nd rfl (by first | exact Or.inl rfl | exact Or.inr rfl) (@pe_op _ _ _ _ _ _ _ _ o_catL (dv 3) (@e_lst _ _ _ _ (@pa_cons _ _ _ _ _ pe_bl (@pa_cons _ _ _ _ _ (@e_lst _ _ _ _ (@pa_cons _ _ _ _ _ (dv 2) (@pa_cons _ _ _ _ _ pe_str pa_nil (by rfl)) (by rfl))) (@pa_cons _ _ _ _ _ (@e_tup _ _ _ _ _ pa_nil) (@pa_cons _ _ _ _ _ (@e_tup _ _ _ _ _ (@pa_cons _ _ _ _ _ (dv 2) pa_nil (by rfl))) (@pa_cons _ _ _ _ _ (@e_tup _ _ _ _ _ (@pa_cons _ _ _ _ _ (dv 2) (@pa_cons _ _ _ _ _ pe_str (@pa_cons _ _ _ _ _ pe_str pa_nil (by rfl)) (by rfl)) (by rfl))) (@pa_cons _ _ _ _ _ (@e_tup _ _ _ _ _ (@pa_cons _ _ _ _ _ (dv 2) (@pa_cons _ _ _ _ _ pe_int pa_nil (by rfl)) (by rfl))) (@pa_cons _ _ _ _ _ (@e_tup _ _ _ _ _ (@pa_cons _ _ _ _ _ (dv 2) (@pa_cons _ _ _ _ _ (dv 2) pa_nil (by rfl)) (by rfl))) pa_nil (by rfl)) (by rfl)) (by rfl)) (by rfl)) (by rfl)) (by rfl)) (by rfl)))) (by rfl) (by first | exact .inl rfl | exact .inr rfl | assumption)) (@pss_one _ _ _ (@ps_ret _ _ _ _ (@pe_ix _ _ _ _ _ _ _ i_lst (dv 3) (dv 0) (fun _ _ => rfl)))))), ?_⟩
      have zx : x.length ≤ 8 := nm_len nx
      have zX : x.length ≤ sizeLine := Nat.le_trans zx (by decide)
      have sl : ∀ a b, (Txt.slice x a b).length ≤ 8 := fun a b => Nat.le_trans (Txt.slice_le _ _ _) zx
      have sz : ∀ a b (y : Str), y.length ≤ 8 → (Txt.slice x a b).length + y.length ≤ sizeLine := fun a b y h => Nat.le_trans (Nat.add_le_add (sl a b) h) (by decide)
      have l1 : ∀ c : Nat, (⟨#[c]⟩ : Str).length = 1 := fun c => rfl
      refine ⟨_, rfl, zX, sz _ _ _ (by decide), _, rfl, zX, sz _ _ _ (by decide), _, rfl, zX, sz _ _ _ (by decide), ?_⟩
      refine ⟨_, rfl, _, rfl, zX, ?_, _, rfl, zX, sz _ _ _ (by decide), (by show (0 : Int) < 100; decide), fun D1 H1 s1 e1 => ?_⟩
      · rw [len_app]
        exact Nat.le_trans (Nat.add_le_add (Nat.add_le_add (sl _ _) (show (Str.ofString " ").length ≤ 1 by decide)) (sl _ _)) (by decide)
      refine fun L H2 s2 e2 T0 H3 s3 e3 T1 H4 s4 e4 T2 H5 s5 e5 T3 H6 s6 e6 T4 H7 s7 e7 D2 H8 s8 e8 => ⟨_, _, (s2.trans (s3.trans (s4.trans (s5.trans (s6.trans (s7.trans s8)))))) _ _ e1, e8, (by show (15 : Nat) ≤ 1000; decide), fun D3 H9 s9 e9 => ?_⟩
      have sA : Same H7 H9 := s8.trans s9
      have e7 := sA _ _ e7
      have e6 := (s7.trans sA) _ _ e6
      have e5 := (s6.trans (s7.trans sA)) _ _ e5
      have e4 := (s5.trans (s6.trans (s7.trans sA))) _ _ e4
      have e3 := (s4.trans (s5.trans (s6.trans (s7.trans sA)))) _ _ e3
      have e2 := (s3.trans (s4.trans (s5.trans (s6.trans (s7.trans sA))))) _ _ e2
      have sF : Same H H9 := s1.trans (s2.trans (s3.trans (s4.trans (s5.trans (s6.trans (s7.trans sA))))))
      clear sA s1 s2 s3 s4 s5 s6 s7 s8 s9 e1 e8
      obtain ⟨j, rfl⟩ := Int.eq_ofNat_of_zero_le k0
      have hj : j < 15 := by omega
      suffices hh : ∃ v t, atI _ (j : Int) = some v ∧ ThAt K H9 t v ∧ OddT t by
        obtain ⟨v, t, h1, h2, h3⟩ := hh
        exact ⟨_, v, SqL.of e9, h1, q v t H9 sF h2 h3⟩
      have sub : ∀ a b, ∀ c ∈ co (Txt.slice x a b), c < 123 := fun a b c hc => by
        rw [co_slice] at hc
        exact (nx.abc c (List.mem_of_mem_drop (List.mem_of_mem_take hc))).2
      have cA : ∀ (y : Str) (e : Nat), co y = [e] → e < 97 → ∀ a b, ∃ t, ThAt K H9 t (.str (Txt.slice x a b ++ y)) ∧ OddT t := fun y e ey he a b => by
        have ly : y.length = 1 := by rw [← co_len, ey]; rfl
        refine str_odd ?_ (fun c hc => ?_) (not_nm (e := e) ?_ he)
        · rw [len_app, ly]
          have := sl a b
          omega
        · rw [co_app, ey] at hc
          rcases List.mem_append.mp hc with h | h
          · exact sub _ _ c h
          · rw [List.mem_singleton.mp h]
            omega
        · rw [co_app, ey]
          exact List.mem_append_right _ (List.mem_singleton.mpr rfl)
      have ox : PyData.strOk x = true := nm_ok nx
      have oyy : PyData.strOk (Str.ofString "yy") = true := by decide +kernel
      have oyz : PyData.strOk (Str.ofString "yz") = true := by decide +kernel
      have lx : LfOk K H9 (.str x) (.str x) := lf_str (Nat.le_trans zx (by decide)) ox
      have hj : j = 0 ∨ j = 1 ∨ j = 2 ∨ j = 3 ∨ j = 4 ∨ j = 5 ∨ j = 6 ∨ j = 7 ∨ j = 8 ∨ j = 9 ∨ j = 10 ∨ j = 11 ∨ j = 12 ∨ j = 13 ∨ j = 14 := by omega
      rcases hj with rfl | rfl | rfl | rfl | rfl | rfl | rfl | rfl | rfl | rfl | rfl | rfl | rfl | rfl | rfl
      · obtain ⟨t, h⟩ := str_odd (K := K) (H := H9) (z := Str.ofString "") (by decide) (by decide +kernel) (by decide +kernel)
        exact ⟨_, t, rfl, h⟩
      · obtain ⟨t, h⟩ := str_odd (K := K) (H := H9) (z := Str.ofString "abcdefghi") (by decide) (by decide +kernel) (by decide +kernel)
        exact ⟨_, t, rfl, h⟩
      · obtain ⟨t, h⟩ := cA (Str.ofString "A") 65 (by decide +kernel) (by decide) none (some (-1))
        exact ⟨_, t, rfl, h⟩
      · obtain ⟨t, h⟩ := cA (Str.ofString "1") 49 (by decide +kernel) (by decide) none (some 7)
        exact ⟨_, t, rfl, h⟩
      · have eb : co (Str.ofString " ") = [32] := by decide +kernel
        have lb : (Str.ofString " ").length = 1 := by decide
        obtain ⟨t, h⟩ := str_odd (K := K) (H := H9) (z := Txt.slice x none (some 3) ++ Str.ofString " " ++ Txt.slice x (some 3) (some 6)) (by rw [len_app, len_app, lb]; have := sl none (some 3); have := sl (some 3) (some 6); omega) (fun c hc => by
          rw [co_app, co_app, eb] at hc
          rcases List.mem_append.mp hc with h | h
          · rcases List.mem_append.mp h with h | h
            · exact sub _ _ c h
            · rw [List.mem_singleton.mp h]
              decide
          · exact sub _ _ c h) (not_nm (e := 32) (by rw [co_app, co_app, eb]; simp) (by decide))
        exact ⟨_, t, rfl, h⟩
      · obtain ⟨t, h⟩ := cA (Str.ofString ".") 46 (by decide +kernel) (by decide) none (some 7)
        exact ⟨_, t, rfl, h⟩
      · exact ⟨_, .lf (.int (c % 100)) (.int (c % 100)), rfl, ⟨rfl, True.intro, .inr ⟨True.intro, rfl⟩, fun z e => (by cases e), .int _, rfl, Nat.zero_le _⟩, lf_odd rfl⟩
      · exact ⟨_, .lf .non .none, rfl, ⟨rfl, True.intro, .inr ⟨True.intro, rfl⟩, fun z e => (by cases e), .non, rfl, Nat.zero_le _⟩, lf_odd rfl⟩
      · exact ⟨_, .lf (.bl true) (.bool true), rfl, ⟨rfl, True.intro, .inr ⟨True.intro, rfl⟩, fun z e => (by cases e), .bl _, rfl, Nat.zero_le _⟩, lf_odd rfl⟩
      · refine ⟨_, .lf (.ref L) (.list [.str x, .str (Str.ofString "yy")]), rfl, ⟨rfl, ⟨_, "list", e2, rfl, rfl⟩, .inr ⟨⟨_, "list", e2, rfl, rfl, rfl⟩, rfl⟩, fun z e => (by cases e), .lst (SqL.of e2) (.cons (.str x) (.cons (.str _) .nil)), ?_, (by show (1 : Nat) ≤ 2; decide)⟩, lf_odd rfl⟩
        show (PyData.strOk x && (PyData.strOk (Str.ofString "yy") && true)) = true
        rw [ox, oyy]
        rfl
      · exact ⟨_, .lf (.ref T0) (.tuple []), rfl, ⟨rfl, ⟨_, "tuple", e3, rfl, rfl⟩, .inl ⟨T0, [], rfl, e3, by decide, rfl⟩, fun z e => (by cases e), .tup (SqT.of e3) .nil, rfl, (by show (1 : Nat) ≤ 2; decide)⟩, lf_odd rfl⟩
      · refine ⟨_, .lf (.ref T1) (.tuple [.str x]), rfl, ⟨rfl, ⟨_, "tuple", e4, rfl, rfl⟩, .inl ⟨T1, [.str x], rfl, e4, (by show (1 : Nat) ≤ 100; decide), rfl⟩, fun z e => (by cases e), .tup (SqT.of e4) (.cons (.str x) .nil), ?_, (by show (1 : Nat) ≤ 2; decide)⟩, lf_odd rfl⟩
        show (PyData.strOk x && true) = true
        rw [ox]
        rfl
      · refine ⟨_, .lf (.ref T2) (.tuple [.str x, .str (Str.ofString "yy"), .str (Str.ofString "yz")]), rfl, ⟨rfl, ⟨_, "tuple", e5, rfl, rfl⟩, .inl ⟨T2, _, rfl, e5, (by show (3 : Nat) ≤ 100; decide), rfl⟩, fun z e => (by cases e), .tup (SqT.of e5) (.cons (.str x) (.cons (.str _) (.cons (.str _) .nil))), ?_, (by show (1 : Nat) ≤ 2; decide)⟩, lf_odd rfl⟩
        show (PyData.strOk x && (PyData.strOk (Str.ofString "yy") && (PyData.strOk (Str.ofString "yz") && true))) = true
        rw [ox, oyy, oyz]
        rfl
      · exact ⟨_, .nd (.lf (.str x) (.str x)) (.lf (.int 7) (.int 7)), rfl, ⟨T3, _, _, rfl, e6, ⟨rfl, lx⟩, ⟨rfl, True.intro, .inr ⟨True.intro, rfl⟩, fun z e => (by cases e), .int _, rfl, Nat.zero_le _⟩⟩, ⟨(by decide : (2 : Nat) ≤ 2), .inl ⟨.int 7, List.mem_cons_of_mem _ (List.mem_singleton.mpr rfl), rfl⟩⟩⟩
      · exact ⟨_, .nd (.lf (.str x) (.str x)) (.lf (.str x) (.str x)), rfl, ⟨T4, _, _, rfl, e7, ⟨rfl, lx⟩, ⟨rfl, lx⟩⟩, ⟨(by decide : (2 : Nat) ≤ 2), .inr fun nd => (List.nodup_cons.mp (show [V.str x, V.str x].Nodup from nd)).1 (List.mem_singleton.mpr rfl)⟩⟩
def fr16 : List Str := (co (Str.ofString "abcdefghijklmnop")).map fun c => Str.ofString "y" ++ ⟨#[c]⟩
theorem fr16_len : fr16.length = 16 := by decide +kernel
theorem fr16_nm : ∀ x ∈ fr16, Nm x := by
  intro x hx
  obtain ⟨c, hc, rfl⟩ := List.mem_map.mp hx
  have e : co (Str.ofString "y" ++ ⟨#[c]⟩) = [121, c] := by
    rw [co_app, co_one, show co (Str.ofString "y") = [121] by decide +kernel]
    rfl
  have hb : ∀ c ∈ co (Str.ofString "abcdefghijklmnop"), 97 ≤ c ∧ c < 123 := by decide +kernel
  refine ⟨by rw [e]; exact (by decide : (1 : Nat) ≤ 2), by rw [e]; exact (by decide : (2 : Nat) ≤ 8), fun d hd => ?_⟩
  rw [e] at hd
  rcases List.mem_cons.mp hd with rfl | hd
  · decide
  · rw [List.mem_singleton.mp hd]
    exact hb c hc
def sp_l_spoiled (K : PySem.W.Frag) (ns : List Int) : Sp := fun vs H Q _ => match vs with
  | [.ref a, v, .ref L, .int c] => ∃ t : Tr, (SqL K H a (ns.map V.int) ∧ TrAt H t v ∧ H L = some (.lst ((lv t).map V.str)) ∧ TOk t) ∧ ∀ v' t' H', Same H H' → ThAt K H' t' v' → (lvT t').length ≤ 40 → run (lvT t') [] = none → Q v' H'
  | _ => False
theorem sc_l_spoiled : FnScope ["_law_script", "_law_tree_here", "_law_names_here", "_law_cell", "_law_kind", "_law_at", "_law_fresh"] ["_law_script", "_law_tree_here", "_law_names_here", "_law_cell"] (defScope s_l_spoiled) := ⟨rfl, rfl, rfl, by decide +kernel, rfl, by decide +kernel, by decide +kernel⟩
theorem ok_l_spoiled (d : Dfn K mg "_law_spoiled" s_l_spoiled ["_law_script", "_law_tree_here", "_law_names_here", "_law_cell"]) (er : Errs K mg c_LadderError c_NoBook c_NoFit c_NoGame c_NoNumber c_NoPlayer c_NoRow c_NoStretch c_NoTable c_NoTree c_NoWorth) (n_len : mg "len" = none)  (c_l_put : Cal P w K mg base "_law_put" ["_law_tree_here", "_law_goal", "_law_odd_here"] 17 (sp_l_put K ns)) (c_l_odd : Cal P w K mg base "_law_odd" ["_law_kind", "_law_cell", "_law_one"] 1 (sp_l_odd K ns)) (c_l_tree : Cal P w K mg base "_law_tree" ["_law_script", "_law_names_here", "_law_at"] 18 (sp_l_tree K ns)) : Cal P w K mg base "_law_spoiled" ["_law_script", "_law_tree_here", "_law_names_here", "_law_cell"] 19 (sp_l_spoiled K ns) := by
  refine d.cal (k := 18) sc_l_spoiled (fun vs H Q E h => ?_) (fun f cdv A outer s H vs Q E hr h => ?_)
  · match vs, h with
    | [.ref a, v, .ref L, .int c], _ => rfl
  · match vs, h with
    | [.ref a, v, .ref L, .int c], ⟨t, ⟨hS, hT, hL, ok⟩, q⟩ =>
      refine ⟨_, (@pss_cons _ _ _ _ _ (@ps_set _ _ (4) _ _ _ _ sc_l_spoiled.nd rfl (by first | exact Or.inl rfl | exact Or.inr rfl) (@pe_op _ _ _ _ _ _ _ _ o_mod (dv 3) pe_int) (by rfl) (by first | exact .inl rfl | exact .inr rfl | assumption)) (@pss_cons _ _ _ _ _ (@ps_set _ _ (5) _ _ _ _ sc_l_spoiled.nd rfl (by first | exact Or.inl rfl | exact Or.inr rfl) (@pe_op _ _ _ _ _ _ _ _ o_mod (@pe_op _ _ _ _ _ _ _ _ o_div (dv 3) pe_int) (@pe_callB _ _ _ _ _ _ _ _ _ c_len (by rfl) n_len (by decide +kernel) (@pa_cons _ _ _ _ _ (dv 2) pa_nil (by rfl)) (by decide) (by decide) (by rfl) (by rfl))) (by rfl) (by first | exact .inl rfl | exact .inr rfl | assumption)) (@pss_cons _ _ _ _ _ (@s_if _ _ _ _ _ _ _ _ (@t_cmp _ _ _ _ _ _ _ _ o_eq (dv 4) pe_int (@nomark _ _ (by decide) (by decide))) (@pss_cons _ _ _ _ _ (@ps_compN _ _ _ _ _ _ _ _ (6) _ _ _ _ _ ["_law_letter"] [] [] rfl (@pi_str _ _ _ _ pe_str) (fun C s H fp => (@pg_name _ _ (0) _ (show List.Nodup [("_law_letter" : Str)] by decide +kernel) rfl (by first | exact Or.inl rfl | exact Or.inr rfl) (by first | exact .inl rfl | exact .inr rfl | assumption))) (fun C s H fp => (@pe_op _ _ _ _ _ _ _ _ o_addS pe_str (dv 0))) rfl rfl (by decide +kernel) (by decide +kernel) (by rfl) True.intro True.intro sc_l_spoiled.nd rfl rfl (by intro _; rfl) (by rfl)) (@pss_one _ _ _ (@ps_ret _ _ _ _ (@e_call _ _ _ _ _ _ _ _ _ _ _ c_l_tree hr (by decide) (by rfl) (@pa_cons _ _ _ _ _ (dv 0) (@pa_cons _ _ _ _ _ (@pe_slice _ _ _ _ _ _ _ _ _ _ sl_lst (@pe_op _ _ _ _ _ _ _ _ o_catL (dv 2) (dv 6)) po_none (po_some (pe_ix i_lst (e_lst (pa_cons pe_int (pa_cons pe_int pa_nil))) (pe_op o_mod (dv 5) pe_int) (fun _ _ => rfl)))) (@pa_cons _ _ _ _ _ pe_int pa_nil (by rfl)) (by rfl)) (by rfl)) (by decide) (by rfl) (by rfl))))) pss_nil) (@pss_cons _ _ _ _ _ (@s_if _ _ _ _ _ _ _ _ (@t_cmp _ _ _ _ _ _ _ _ o_eq (dv 4) pe_int (@nomark _ _ (by decide) (by decide))) (@pss_one _ _ _ (@ps_ret _ _ _ _ (@e_tup _ _ _ _ _ (@pa_cons _ _ _ _ _ (dv 1) (@pa_cons _ _ _ _ _ (@pe_ix _ _ _ _ _ _ _ i_lst (dv 2) (dv 5) (fun _ _ => rfl)) pa_nil (by rfl)) (by rfl))))) pss_nil) (@pss_one _ _ _ (@ps_ret _ _ _ _ (@e_call _ _ _ _ _ _ _ _ _ _ _ c_l_put hr (by decide) (by rfl) (@pa_cons _ _ _ _ _ (dv 1) (@pa_cons _ _ _ _ _ (@pe_ix _ _ _ _ _ _ _ i_lst (dv 2) (dv 5) (fun _ _ => rfl)) (@pa_cons _ _ _ _ _ (@e_call _ _ _ _ _ _ _ _ _ _ _ c_l_odd hr (by decide) (by rfl) (@pa_cons _ _ _ _ _ (dv 4) (@pa_cons _ _ _ _ _ (@pe_op _ _ _ _ _ _ _ _ o_div (dv 3) pe_int) (@pa_cons _ _ _ _ _ (@pe_ix _ _ _ _ _ _ _ i_lst (dv 2) (dv 5) (fun _ _ => rfl)) pa_nil (by rfl)) (by rfl)) (by rfl)) (by decide) (by rfl) (by rfl)) pa_nil (by rfl)) (by rfl)) (by rfl)) (by decide) (by rfl) (by rfl)))))))), ?_⟩
      have l1 := lv_pos t
      have l8 := ok.len
      refine ⟨(by show (0 : Int) < 17; decide), ⟨by decide, bd_lit rfl⟩, _, .inl (SqL.of hL), ?_⟩
      rw [List.length_map]
      refine ⟨by omega, ?_⟩
      have k0 := Int.emod_nonneg c (show (17 : Int) ≠ 0 by decide)
      have k1 := Int.emod_lt_of_pos c (show (0 : Int) < 17 by decide)
      have j0 := Int.emod_nonneg (c / 17) (show ((lv t).length : Int) ≠ 0 by omega)
      have j1 := Int.emod_lt_of_pos (c / 17) (show (0 : Int) < (lv t).length by omega)
      obtain ⟨j, hj⟩ : ∃ j : Nat, c / 17 % ((lv t).length : Int) = j := ⟨(c / 17 % ((lv t).length : Int)).toNat, by omega⟩
      have hj' : j < (lv t).length := by omega
      have gx : atI ((lv t).map V.str) (c / 17 % ((lv t).length : Int)) = some (.str (lv t)[j]) := by
        rw [hj]
        exact atI_nat (by rw [List.getElem?_map, List.getElem?_eq_getElem hj']; rfl)
      have mx : (lv t)[j] ∈ lv t := List.getElem_mem hj'
      generalize (lv t)[j] = x at gx mx
      have nx := ok.nm x mx
      refine ⟨fun h16 => ?_, fun h16 => ⟨fun h15 => ?_, fun h15 => ?_⟩⟩
      · have lab : (Str.ofString "abcdefghijklmnop").length ≤ 1000 := by decide
        show CGoal (Its (Str.ofString "abcdefghijklmnop")) _ _ _ _ _ _ _
        refine comp_str (fun c => .str (Str.ofString "y" ++ ⟨#[c]⟩)) lab (fun c H2 hc s2 P hP => ⟨rfl, (by show (2 : Nat) ≤ sizeLine; decide), hP⟩) fun D H2 s2 e2 => ?_
        have e2 : H2 D = some (.lst (fr16.map V.str)) := by
          rw [e2]
          unfold fr16
          rw [List.map_map]
          rfl
        obtain ⟨n, hn, gn⟩ : ∃ n : Nat, (n = 9 ∨ n = 16) ∧ atI [V.int 9, V.int 16] (c / 17 % ((lv t).length : Int) % 2) = some (.int (n : Int)) := by
          have m0 := Int.emod_nonneg (c / 17 % ((lv t).length : Int)) (show (2 : Int) ≠ 0 by decide)
          have m1 := Int.emod_lt_of_pos (c / 17 % ((lv t).length : Int)) (show (0 : Int) < 2 by decide)
          have : c / 17 % ((lv t).length : Int) % 2 = 0 ∨ c / 17 % ((lv t).length : Int) % 2 = 1 := by omega
          rcases this with h | h
          · exact ⟨9, .inl rfl, by rw [h]; rfl⟩
          · exact ⟨16, .inr rfl, by rw [h]; rfl⟩
        have lf := fr16_len
        have hn' : n ≤ ((lv t).map V.str ++ fr16.map V.str).length := by
          rw [List.length_append, List.length_map, List.length_map]
          omega
        refine ⟨_, _, s2 _ _ hL, e2, (by rw [List.length_map, List.length_map]; omega), fun D2 H3 s3 e3 => fun P4 H4 s4 e4 => ⟨(by show (0 : Int) < 2; decide), _, .int n, SqL.of e4, gn, _, rfl, _, SqL.of (s4 _ _ e3), fun P5 H5 s5 e5 => ?_⟩⟩
        rw [cut_take hn', ← List.map_append, ← List.map_take] at e5
        have s6 : Same H H5 := s2.trans (s3.trans (s4.trans s5))
        have ln : ((lv t ++ fr16).take n).length = n := by
          rw [List.length_take, List.length_append]
          omega
        refine ⟨(lv t ++ fr16).take n, ⟨s6.seq hS, SqL.of e5, by omega, (show ((lv t ++ fr16).take n).length ≤ 16 by omega), by decide⟩, fun v' t' H6 s7 r6 z6 => q v' (thO t') H6 (s6.trans s7) (th_O t' v' r6 fun y hy => ?_) ?_ (run_none (.inr (.inr ?_)))⟩
        · rw [z6] at hy
          rcases List.mem_append.mp (List.mem_of_mem_take hy) with h | h
          · exact ok.nm y h
          · exact fr16_nm y h
        · rw [lvT_O, List.length_map, z6]
          omega
        · rw [lvT_O, List.length_map, z6]
          omega
      · refine ⟨_, _, SqL.of hL, gx, fun T H1 s1 e1 => ?_⟩
        refine q (.ref T) (.nd (thO t) (.lf (.str x) (.str x))) H1 s1 ⟨T, v, .str x, rfl, e1, th_O t v (tr_up (kt_of s1) _ _ hT) ok.nm, th_O (.leaf x) _ rfl fun y hy => List.mem_singleton.mp hy ▸ nx⟩ ?_ (run_none (.inr (.inl fun nd => ?_)))
        · show (lvT (thO t) ++ [V.str x]).length ≤ 40
          rw [List.length_append, lvT_O, List.length_map, List.length_singleton]
          omega
        · have nd : (lvT (thO t) ++ [V.str x]).Nodup := nd
          rw [lvT_O] at nd
          exact (List.nodup_append.mp nd).2.2 (.str x) (List.mem_map.mpr ⟨x, mx, rfl⟩) (.str x) (List.mem_singleton.mpr rfl) rfl
      · have h16 : ¬ c % 17 = 16 := of_decide_eq_false h16
        have h15 : ¬ c % 17 = 15 := of_decide_eq_false h15
        refine ⟨_, _, SqL.of hL, gx, ⟨by decide, bd_lit rfl⟩, _, _, SqL.of hL, gx, ⟨by omega, by omega, nx⟩, fun vo to H1 s1 h1 od => ?_⟩
        refine ⟨t, to, ⟨tr_up (kt_of s1) _ _ hT, (show (lv t).length ≤ 16 by omega), l8, ok.nm, nx, h1⟩, fun v' H2 s2 h2 => q v' _ H2 (s1.trans s2) h2 ?_ (run_none ?_)⟩
        · have := put_len (g := x) od.len t
          omega
        · have sb := put_sub (to := to) mx
          rcases od.bad with ⟨y, hy, hb⟩ | h
          · exact .inl ⟨y, sb.subset hy, hb⟩
          · exact .inr (.inl fun nd => h (List.Nodup.sublist sb nd))
def sp_l_refused (K : PySem.W.Frag) (ns : List Int) : Sp := fun vs H Q _ => match vs with
  | [v, .ref W, .bl b] => ∃ t, (ThAt K H t v ∧ (lvT t).length ≤ 40 ∧ run (lvT t) [] = none) ∧ ∀ H', Same H H' → Q (.bl true) H'
  | _ => False
theorem sc_l_refused : FnScope ["_law_thing", "_law_worths", "_law_told", "_law_right", "_law_other", "e"] ["_law_thing", "_law_worths", "_law_told"] (defScope s_l_refused) := ⟨rfl, rfl, rfl, by decide +kernel, rfl, by decide +kernel, by decide +kernel⟩
theorem ok_l_refused (d : Dfn K mg "_law_refused" s_l_refused ["_law_thing", "_law_worths", "_law_told"]) (er : Errs K mg c_LadderError c_NoBook c_NoFit c_NoGame c_NoNumber c_NoPlayer c_NoRow c_NoStretch c_NoTable c_NoTree c_NoWorth) (n_isinstance : mg "isinstance" = none) (n_ValueError : mg "ValueError" = none)  (c_tree_shares : Cal P w K mg base "tree_shares" ["tree", "worths"] 16 (sp_tree_shares K ns)) (c_leaves : Cal P w K mg base "leaves" ["tree"] 2 (sp_leaves K ns)) : Cal P w K mg base "_law_refused" ["_law_thing", "_law_worths", "_law_told"] 17 (sp_l_refused K ns) := by
  refine d.cal (k := 16) sc_l_refused (fun vs H Q E h => ?_) (fun f cdv A outer s H vs Q E hr h => ?_)
  · match vs, h with
    | [v, .ref W, .bl b], _ => rfl
  · match vs, h with
    | [v, .ref W, .bl b], ⟨t, ⟨hT, l40, hn⟩, q⟩ =>
      refine ⟨_, (@pss_cons _ _ _ _ _ (@ps_set _ _ (3) _ _ _ _ sc_l_refused.nd rfl (by first | exact Or.inl rfl | exact Or.inr rfl) pe_bl (by rfl) (by first | exact .inl rfl | exact .inr rfl | assumption)) (@pss_cons _ _ _ _ _ (@ps_set _ _ (4) _ _ _ _ sc_l_refused.nd rfl (by first | exact Or.inl rfl | exact Or.inr rfl) pe_bl (by rfl) (by first | exact .inl rfl | exact .inr rfl | assumption)) (@pss_cons _ _ _ _ _ (ps_tryIf (n := 5) ⟨rfl, rfl, rfl⟩ (@t_val _ _ _ (dv 2) (by intro _; rfl)) c_tree_shares hr (by decide) (by rfl) (@pa_cons _ _ _ _ _ (dv 0) (@pa_cons _ _ _ _ _ (dv 1) pa_nil (by rfl)) (by rfl)) c_leaves hr (by decide) (by rfl) (@pa_cons _ _ _ _ _ (dv 0) pa_nil (by rfl)) (by rfl) er.b_LadderError er.x_LadderError.cat sc_l_refused.nd rfl rfl (fun v => (@pss_cons _ _ _ _ _ (@ps_set _ _ (3) _ _ _ _ sc_l_refused.nd rfl (by first | exact Or.inl rfl | exact Or.inr rfl) (@e_and _ _ _ _ _ _ _ (@pe_callB _ _ _ _ _ _ _ _ _ (show CallR _ (.builtin "isinstance") (dIsiX K) from c_isiX) (by rfl) n_isinstance (by decide +kernel) (@pa_cons _ _ _ _ _ (dv 5) (@pa_cons _ _ _ _ _ (@pe_glob _ _ (.ref c_NoTree) _ _ (by rfl) er.b_NoTree rfl (by decide)) pa_nil (by rfl)) (by rfl)) (by decide) (by decide) (by rfl) (by rfl)) (@pe_one _ _ _ _ _ (@pe_callB _ _ _ _ _ _ _ _ _ (show CallR _ (.builtin "isinstance") (dIsiX K) from c_isiX) (by rfl) n_isinstance (by decide +kernel) (@pa_cons _ _ _ _ _ (dv 5) (@pa_cons _ _ _ _ _ (e_ty "ValueError" (by rfl) n_ValueError (by decide +kernel)) pa_nil (by rfl)) (by rfl)) (by decide) (by decide) (by rfl) (by rfl)))) (by rfl) (by first | exact .inl rfl | exact .inr rfl | assumption)) (@pss_one _ _ _ (@ps_set _ _ (4) _ _ _ _ sc_l_refused.nd rfl (by first | exact Or.inl rfl | exact Or.inr rfl) (@pe_callB _ _ _ _ _ _ _ _ _ (show CallR _ (.builtin "isinstance") (dIsiT K) from c_isiT) (by rfl) n_isinstance (by decide +kernel) (@pa_cons _ _ _ _ _ (dv 5) (@pa_cons _ _ _ _ _ (@e_tup _ _ _ _ _ (@pa_cons _ _ _ _ _ (@pe_glob _ _ (.ref c_NoBook) _ _ (by rfl) er.b_NoBook rfl (by decide)) (@pa_cons _ _ _ _ _ (@pe_glob _ _ (.ref c_NoFit) _ _ (by rfl) er.b_NoFit rfl (by decide)) (@pa_cons _ _ _ _ _ (@pe_glob _ _ (.ref c_NoGame) _ _ (by rfl) er.b_NoGame rfl (by decide)) (@pa_cons _ _ _ _ _ (@pe_glob _ _ (.ref c_NoNumber) _ _ (by rfl) er.b_NoNumber rfl (by decide)) (@pa_cons _ _ _ _ _ (@pe_glob _ _ (.ref c_NoPlayer) _ _ (by rfl) er.b_NoPlayer rfl (by decide)) (@pa_cons _ _ _ _ _ (@pe_glob _ _ (.ref c_NoRow) _ _ (by rfl) er.b_NoRow rfl (by decide)) (@pa_cons _ _ _ _ _ (@pe_glob _ _ (.ref c_NoStretch) _ _ (by rfl) er.b_NoStretch rfl (by decide)) (@pa_cons _ _ _ _ _ (@pe_glob _ _ (.ref c_NoTable) _ _ (by rfl) er.b_NoTable rfl (by decide)) (@pa_cons _ _ _ _ _ (@pe_glob _ _ (.ref c_NoWorth) _ _ (by rfl) er.b_NoWorth rfl (by decide)) pa_nil (by rfl)) (by rfl)) (by rfl)) (by rfl)) (by rfl)) (by rfl)) (by rfl)) (by rfl)) (by rfl))) pa_nil (by rfl)) (by rfl)) (by decide) (by decide) (by rfl) (by rfl)) (by rfl) (by first | exact .inl rfl | exact .inr rfl | assumption)))))) (@pss_one _ _ _ (@ps_ret _ _ _ _ (@e_and _ _ _ _ _ _ _ (dv 3) (@pe_one _ _ _ _ _ (@e_not _ _ _ _ (dv 4))))))))), ?_⟩
      refine ⟨fun _ => .inl ⟨t, ⟨hT, l40, hn⟩, fun H1 s1 C hC => ?_⟩, fun _ => ⟨t, ⟨hT, l40⟩, fun _ H1 s1 C hC => ?_, fun l e => by rw [hn] at e; cases e⟩⟩
      all_goals
        have hC' := ns_inj hC er.y_NoTree
        subst hC'
        have xg := er.x_NoTree
        refine ⟨_, rfl, xg, er.km_NoTree_LadderError, fun a H3 s3 e3 => ?_⟩
        refine ⟨_, _, e3, xg, er.kk_NoTree_NoTree, ⟨fun _ => ⟨_, _, e3, xg, er.kv_NoTree, ?_⟩, fun h => nb h⟩⟩
        intro t H4 s4 e4
        refine ⟨_, false, [c_NoBook, c_NoFit, c_NoGame, c_NoNumber, c_NoPlayer, c_NoRow, c_NoStretch, c_NoTable, c_NoWorth], s4 _ _ e3, xg, e4, (kitF er.kk_NoTree_NoBook (kitF er.kk_NoTree_NoFit (kitF er.kk_NoTree_NoGame (kitF er.kk_NoTree_NoNumber (kitF er.kk_NoTree_NoPlayer (kitF er.kk_NoTree_NoRow (kitF er.kk_NoTree_NoStretch (kitF er.kk_NoTree_NoTable (kitF er.kk_NoTree_NoWorth kitN))))))))), ?_⟩
        exact ⟨fun _ => q H4 (s1.trans (s3.trans s4)), fun h => nb h⟩
def kvI (nm : List Str) (w : Str → Int) : List (Key × V) := kvV nm fun x => .int (w x)
theorem kvI_wa {H : Hp} {D : Addr} {nm : List Str} {w : Str → Int} (e : H D = some (.dK (kvI nm w))) (h : Wk w nm) : WA H D nm w := ⟨⟨_, .inl e, fun x hx => kvV_val hx⟩, h⟩
theorem put_kvI {l : List Str} {w : Str → Int} {x : Str} {v : Int} : ∃ l', putK (kvI l w) (Sum.inr x) (.int v) = kvI l' (fun z => if z = x then v else w z) ∧ l'.length ≤ l.length + 1 ∧ ∀ z, z ∈ l' ↔ z ∈ l ∨ z = x := by
  have e : ∀ m : List Str, kvV m (fun y => if y = x then V.int v else V.int (w y)) = kvI m fun z => if z = x then v else w z := fun m => by
    unfold kvI kvV
    refine List.map_congr_left fun z _ => ?_
    show (Sum.inr z, if z = x then V.int v else V.int (w z)) = (Sum.inr z, V.int (if z = x then v else w z))
    split <;> rfl
  by_cases h : x ∈ l
  · refine ⟨l, ?_, Nat.le_succ _, fun z => ⟨.inl, fun h' => h'.elim id fun c => c ▸ h⟩⟩
    unfold kvI
    rw [kvV_put h]
    exact e l
  · refine ⟨l ++ [x], ?_, by rw [List.length_append]; exact Nat.le_refl _, fun z => by simp⟩
    unfold kvI
    rw [kvV_new h]
    exact e (l ++ [x])
theorem sc_law : FnScope ["_law_script", "_law_many", "_law_names_here", "_law_tree_here", "_law_worths", "_law_name", "_law_k", "_law_odd_here"] ["_law_script"] (defScope s_law) := ⟨rfl, rfl, rfl, by decide +kernel, rfl, by decide +kernel, by decide +kernel⟩
theorem ok_law (d : Dfn K mg "law" s_law ["_law_script"]) (er : Errs K mg c_LadderError c_NoBook c_NoFit c_NoGame c_NoNumber c_NoPlayer c_NoRow c_NoStretch c_NoTable c_NoTree c_NoWorth) (n_len : mg "len" = none) (n_range : mg "range" = none)  (c_tree_shares : Cal P w K mg base "tree_shares" ["tree", "worths"] 16 (sp_tree_shares K ns)) (c_leaves : Cal P w K mg base "leaves" ["tree"] 2 (sp_leaves K ns)) (c_l_refused : Cal P w K mg base "_law_refused" ["_law_thing", "_law_worths", "_law_told"] 17 (sp_l_refused K ns)) (c_l_spoiled : Cal P w K mg base "_law_spoiled" ["_law_script", "_law_tree_here", "_law_names_here", "_law_cell"] 19 (sp_l_spoiled K ns)) (c_l_cell_at : Cal P w K mg base "_law_cell_at" ["_law_script", "_law_k"] 1 (sp_l_cell_at K ns)) (c_l_tree : Cal P w K mg base "_law_tree" ["_law_script", "_law_names_here", "_law_at"] 18 (sp_l_tree K ns)) (c_l_names : Cal P w K mg base "_law_names" ["_law_cell", "_law_many"] 1 (sp_l_names K ns)) : Cal P w K mg base "law" ["_law_script"] 20 (sp_law K ns) := by
  refine d.cal (k := 19) sc_law (fun vs H Q E h => ?_) (fun f cdv A outer s H vs Q E hr h => ?_)
  · match vs, h with
    | [.ref a], _ => rfl
  · match vs, h with
    | [.ref a], ⟨hS, hl, k⟩ =>
      refine ⟨_, (@ss_cutE _ _ _ _ _ (@ps_set _ _ (1) _ _ _ _ sc_law.nd rfl (by first | exact Or.inl rfl | exact Or.inr rfl) (@pe_op _ _ _ _ _ _ _ _ o_add pe_int (@pe_op _ _ _ _ _ _ _ _ o_mod (@e_call _ _ _ _ _ _ _ _ _ _ _ c_l_cell_at hr (by decide) (by rfl) (@pa_cons _ _ _ _ _ (dv 0) (@pa_cons _ _ _ _ _ pe_int pa_nil (by rfl)) (by rfl)) (by decide) (by rfl) (by rfl)) pe_int)) (by rfl) (by first | exact .inl rfl | exact .inr rfl | assumption)) (@pss_cons _ _ _ _ _ (@ps_set _ _ (2) _ _ _ _ sc_law.nd rfl (by first | exact Or.inl rfl | exact Or.inr rfl) (@e_call _ _ _ _ _ _ _ _ _ _ _ c_l_names hr (by decide) (by rfl) (@pa_cons _ _ _ _ _ (@e_call _ _ _ _ _ _ _ _ _ _ _ c_l_cell_at hr (by decide) (by rfl) (@pa_cons _ _ _ _ _ (dv 0) (@pa_cons _ _ _ _ _ pe_int pa_nil (by rfl)) (by rfl)) (by decide) (by rfl) (by rfl)) (@pa_cons _ _ _ _ _ (dv 1) pa_nil (by rfl)) (by rfl)) (by decide) (by rfl) (by rfl)) (by rfl) (by first | exact .inl rfl | exact .inr rfl | assumption)) (@pss_cons _ _ _ _ _ (@ps_set _ _ (3) _ _ _ _ sc_law.nd rfl (by first | exact Or.inl rfl | exact Or.inr rfl) (@e_call _ _ _ _ _ _ _ _ _ _ _ c_l_tree hr (by decide) (by rfl) (@pa_cons _ _ _ _ _ (dv 0) (@pa_cons _ _ _ _ _ (dv 2) (@pa_cons _ _ _ _ _ pe_int pa_nil (by rfl)) (by rfl)) (by rfl)) (by decide) (by rfl) (by rfl)) (by rfl) (by first | exact .inl rfl | exact .inr rfl | assumption)) (@pss_cons _ _ _ _ _ (@ps_set _ _ (4) _ _ _ _ sc_law.nd rfl (by first | exact Or.inl rfl | exact Or.inr rfl) pe_dnewK (by rfl) (by first | exact .inl rfl | exact .inr rfl | assumption)) (@pss_cons _ _ _ _ _ (@ps_for _ _ _ _ _ _ _ _ PassesOwn.never rfl (@pi_list _ _ _ _ (@pe_op _ _ _ _ _ _ _ _ o_catL (dv 2) (@e_lst _ _ _ _ (@pa_cons _ _ _ _ _ pe_str (@pa_cons _ _ _ _ _ pe_str pa_nil (by rfl)) (by rfl))))) (@pg_name _ _ (5) _ sc_law.nd rfl (by first | exact Or.inl rfl | exact Or.inr rfl) (by first | exact .inl rfl | exact .inr rfl | assumption)) (@pss_one _ _ _ (@ps_dput _ _ _ _ _ _ _ _ _ (@u1 _ _ hr.units) (dv 4) (dv 5) (@pe_op _ _ _ _ _ _ _ _ o_add pe_int (@pe_op _ _ _ _ _ _ _ _ o_mod (@e_call _ _ _ _ _ _ _ _ _ _ _ c_l_cell_at hr (by decide) (by rfl) (@pa_cons _ _ _ _ _ (dv 0) (@pa_cons _ _ _ _ _ pe_int pa_nil (by rfl)) (by rfl)) (by decide) (by rfl) (by rfl)) pe_int)) rfl)) (by intro _; rfl)) (@pss_cons _ _ _ _ _ (@s_if _ _ _ _ _ _ _ _ (@t_cmp _ _ _ _ _ _ _ _ (@o_neD _ hr.units) (@e_call _ _ _ _ _ _ _ _ _ _ _ c_leaves hr (by decide) (by rfl) (@pa_cons _ _ _ _ _ (dv 3) pa_nil (by rfl)) (by decide) (by rfl) (by rfl)) (dv 2) (@nomark _ _ (by decide) (by decide))) (@pss_one _ _ _ (@ps_ret _ _ _ _ pe_bl)) pss_nil) (@pss_cons _ _ _ _ _ (@ps_for _ _ _ _ _ _ _ _ PassesOwn.never rfl (@pi_range2 _ _ _ _ _ _ _ (by rfl) n_range (@pa_cons _ _ _ _ _ pe_int (@pa_cons _ _ _ _ _ pe_int pa_nil (by rfl)) (by rfl)) (by rfl) (by rfl)) (@pg_name _ _ (6) _ sc_law.nd rfl (by first | exact Or.inl rfl | exact Or.inr rfl) (by first | exact .inl rfl | exact .inr rfl | assumption)) (@pss_cons _ _ _ _ _ (@ps_set _ _ (7) _ _ _ _ sc_law.nd rfl (by first | exact Or.inl rfl | exact Or.inr rfl) (@e_call _ _ _ _ _ _ _ _ _ _ _ c_l_spoiled hr (by decide) (by rfl) (@pa_cons _ _ _ _ _ (dv 0) (@pa_cons _ _ _ _ _ (dv 3) (@pa_cons _ _ _ _ _ (dv 2) (@pa_cons _ _ _ _ _ (@pe_op _ _ _ _ _ _ _ _ o_add (@e_call _ _ _ _ _ _ _ _ _ _ _ c_l_cell_at hr (by decide) (by rfl) (@pa_cons _ _ _ _ _ (dv 0) (@pa_cons _ _ _ _ _ (dv 6) pa_nil (by rfl)) (by rfl)) (by decide) (by rfl) (by rfl)) (dv 6)) pa_nil (by rfl)) (by rfl)) (by rfl)) (by rfl)) (by decide) (by rfl) (by rfl)) (by rfl) (by first | exact .inl rfl | exact .inr rfl | assumption)) (@pss_cons _ _ _ _ _ (@s_if _ _ _ _ _ _ _ _ (@L2.PW.pt _ _ _ (@w_or _ _ _ _ _ _ _ (@pt_not _ _ _ _ (@t_val _ _ _ (@e_call _ _ _ _ _ _ _ _ _ _ _ c_l_refused hr (by decide) (by rfl) (@pa_cons _ _ _ _ _ (dv 7) (@pa_cons _ _ _ _ _ (dv 4) (@pa_cons _ _ _ _ _ pe_bl pa_nil (by rfl)) (by rfl)) (by rfl)) (by decide) (by rfl) (by rfl)) (by intro _; rfl))) (@pw_or1 _ _ _ _ (@pt_not _ _ _ _ (@t_val _ _ _ (@e_call _ _ _ _ _ _ _ _ _ _ _ c_l_refused hr (by decide) (by rfl) (@pa_cons _ _ _ _ _ (dv 7) (@pa_cons _ _ _ _ _ (dv 4) (@pa_cons _ _ _ _ _ pe_bl pa_nil (by rfl)) (by rfl)) (by rfl)) (by decide) (by rfl) (by rfl)) (by intro _; rfl)))))) (@pss_one _ _ _ (@ps_ret _ _ _ _ pe_bl)) pss_nil) (@pss_one _ _ _ (@s_if _ _ _ _ _ _ _ _ (@pt_not _ _ _ _ (@t_val _ _ _ (@e_call _ _ _ _ _ _ _ _ _ _ _ c_l_refused hr (by decide) (by rfl) (@pa_cons _ _ _ _ _ (dv 7) (@pa_cons _ _ _ _ _ pe_dnewK (@pa_cons _ _ _ _ _ pe_bl pa_nil (by rfl)) (by rfl)) (by rfl)) (by decide) (by rfl) (by rfl)) (by intro _; rfl))) (@pss_one _ _ _ (@ps_ret _ _ _ _ pe_bl)) pss_nil)))) (by intro _; rfl)) (@pss_one _ _ _ (@ps_ret _ _ _ _ (@e_and _ _ _ _ _ _ _ (@pe_cmpR _ _ _ _ _ _ _ _ (@o_eqD _ hr.units) (@e_call _ _ _ _ _ _ _ _ _ _ _ c_leaves hr (by decide) (by rfl) (@pa_cons _ _ _ _ _ (dv 3) pa_nil (by rfl)) (by decide) (by rfl) (by rfl)) (dv 2) (@nomark _ _ (by decide) (by decide))) (@pe_one _ _ _ _ _ (@pe_cmpR _ _ _ _ _ _ _ _ o_eq (@pe_callB _ _ _ _ _ _ _ _ _ c_len (by rfl) n_len (by decide +kernel) (@pa_cons _ _ _ _ _ (@e_call _ _ _ _ _ _ _ _ _ _ _ c_tree_shares hr (by decide) (by rfl) (@pa_cons _ _ _ _ _ (dv 3) (@pa_cons _ _ _ _ _ (dv 4) pa_nil (by rfl)) (by rfl)) (by decide) (by rfl) (by rfl)) pa_nil (by rfl)) (by decide) (by decide) (by rfl) (by rfl)) (dv 1) (@nomark _ _ (by decide) (by decide)))))))))))))), ?_⟩
      refine ⟨fun σ H' => ∃ m : Int, σ = [some (.ref a), some (.int m), none, none, none, none, none, none] ∧ H' = H ∧ 1 ≤ m ∧ m ≤ 8, ⟨hS, by decide, fun c => ⟨(by show (0 : Int) < 8; decide), 1 + c % 8, rfl, rfl, ?_, ?_⟩⟩, ?_⟩
      · have := Int.emod_nonneg c (show (8 : Int) ≠ 0 by decide)
        omega
      · have := Int.emod_lt_of_pos c (show (0 : Int) < 8 by decide)
        omega
      rintro σ H0 ⟨m, rfl, rfl, m1, m8⟩
      refine ⟨hS, by decide, fun c => ⟨⟨by omega, by omega⟩, fun L nm H1 s1 n1 e1 l1 ok => ?_⟩⟩
      refine ⟨nm, ⟨s1.seq hS, SqL.of e1, by omega, (show nm.length ≤ 16 by omega), by decide⟩, fun v t H2 s2 r2 z2 => ?_⟩
      subst z2
      have tok : TOk t := ⟨ok.nd, by omega, fun x hx => (ok.ok x hx).nm⟩
      have e2 := s2 _ _ e1
      have hS2 := (s1.trans s2).seq hS
      clear ok e1 s1 s2 n1 hS
      refine fun W hW => ?_
      have s3 : Same H2 (upd H2 W (.dK [])) := same_upd hW
      have e3 : upd H2 W (.dK []) W = some (.dK (kvI [] fun _ => 1)) := upd_same
      generalize upd H2 W (.dK []) = H3 at s3 e3
      refine fun P4 H4 s4 e4 => ⟨_, _, (s3.trans s4) _ _ e2, e4, ?_, fun D H5 s5 e5 => ?_⟩
      · rw [List.length_map]
        show (lv t).length + 2 ≤ 1000
        omega
      have e5 : H5 D = some (.lst ((lv t ++ [Str.ofString "yy", Str.ofString "yz"]).map V.str)) := by
        rw [e5, List.map_append]
        rfl
      have oL : (lv t ++ [Str.ofString "yy", Str.ofString "yz"]).length ≤ 10 := by
        rw [List.length_append]
        show (lv t).length + 2 ≤ 10
        omega
      have oS : ∀ x ∈ lv t, x ∈ lv t ++ [Str.ofString "yy", Str.ofString "yz"] := fun x hx => List.mem_append_left _ hx
      generalize lv t ++ [Str.ofString "yy", Str.ofString "yz"] = os at e5 oL oS
      have e3 := (s4.trans s5) _ _ e3
      have s25 := s3.trans (s4.trans s5)
      have neD : D ≠ W := fun z => by
        rw [z, e3] at e5
        cases e5
      clear s3 s4 s5 e4
      refine ⟨D, rfl, ⟨_, SqL.of e5⟩, for_list (K := K) (a := D) (xs := os.map V.str) (fun i σ H' => ∃ (l : List Str) (w : Str → Int) (o5 : Option V), σ = [some (.ref a), some (.int m), some (.ref L), some v, some (.ref W), o5, none, none] ∧ Same H2 H' ∧ H' D = some (.lst (os.map V.str)) ∧ H' W = some (.dK (kvI l w)) ∧ l.length ≤ i ∧ (∀ x ∈ os.take i, x ∈ l) ∧ Wk w l) ⟨[], fun _ => 1, none, rfl, s25, e5, e3, Nat.le_refl _, fun x h => by simp at h, fun x h => by simp at h⟩ (fun i σ H' _ ⟨_, _, _, _, _, e, _⟩ => SqL.of e) ?_ ?_⟩
      · rintro i y σ H6 hy ⟨l, w, o5, rfl, s6, eD, eW, ll, sub, hw⟩
        rw [List.getElem?_map] at hy
        obtain ⟨x, hx, rfl⟩ := Option.map_eq_some_iff.mp hy
        have il := (List.getElem?_eq_some_iff.mp hx).1
        refine ⟨s6.seq hS2, by decide, fun c => ⟨(by show (0 : Int) < 999; decide), ?_⟩⟩
        have c0 := Int.emod_nonneg c (show (999 : Int) ≠ 0 by decide)
        have c1 := Int.emod_lt_of_pos c (show (0 : Int) < 999 by decide)
        obtain ⟨l', hl', ll', ml'⟩ := put_kvI (l := l) (w := w) (x := x) (v := 1 + c % 999)
        have tk : os.take (i + 1) = os.take i ++ [x] := by rw [List.take_add_one, hx]; rfl
        refine ⟨W, _, rfl, DPut.k (k := Sum.inr x) eW ?_, l', fun z => if z = x then 1 + c % 999 else w z, _, rfl, same_app' s6 hW, ?_, ?_, by omega, fun z hz => ?_, fun z hz => ?_⟩
        · unfold kvI kvV
          rw [List.length_map]
          exact Nat.lt_of_le_of_lt (show _ ≤ 10 by omega) (by decide)
        · rw [upd_ne neD]
          exact eD
        · rw [upd_same]
          exact congrArg (fun l => some (HO.dK l)) hl'
        · rw [tk] at hz
          rcases List.mem_append.mp hz with h | h
          · exact (ml' z).mpr (.inl (sub z h))
          · exact (ml' z).mpr (.inr (List.mem_singleton.mp h))
        · show 1 ≤ (if z = x then 1 + c % 999 else w z) ∧ (if z = x then 1 + c % 999 else w z) ≤ 999
          by_cases e : z = x
          · rw [if_pos e]
            omega
          · rw [if_neg e]
            exact hw z (((ml' z).mp hz).resolve_right e)
      rintro σ H6 ⟨l, w, o5, rfl, s6, _, eW, _, sub, hw⟩
      rw [List.length_map, List.take_length] at sub
      have wa : WA H6 W (lv t) w := (kvI_wa eW hw).sub fun x hx => sub x (oS x hx)
      have e2 := s6 _ _ e2
      have r2 := tr_up (kt_of s6) _ _ r2
      have hS := s6.seq hS2
      clear s6 hS2 eW hw sub oS oL e3 e5 s25 neD hW
      have ro : run (lvT (thO t)) [] = some (lv t) := by
        rw [lvT_O]
        exact run_tr (fun x hx => (tok.nm x hx).is) tok.nd tok.len
      have l40 : (lvT (thO t)).length ≤ 40 := by
        rw [lvT_O, List.length_map]
        omega
      have sh : SeqAt.shaped (.list ((lv t).map PyData.str)) = true := sh_strs fun x hx => nm_ok (tok.nm x hx)
      refine ⟨thO t, ⟨th_O t v r2 tok.nm, l40⟩, fun e => (by rw [ro] at e; cases e), fun l' e D7 H7 s7 _ e7 => ?_⟩
      rw [ro] at e
      cases e
      refine ⟨_, _, rp_strs (SqL.of e7), rp_strs (s7.seq (SqL.of e2)), sh, sh, ?_⟩
      rw [eqv_shaped sh]
      refine ⟨fun h => nb h, fun _ => ?_⟩
      have wa := wa.up s7
      have e2 := s7 _ _ e2
      have r2 := tr_up (kt_of s7) _ _ r2
      have hS := s7.seq hS
      clear s7 e7
      refine ⟨_, _, rfl, ⟨by decide, by decide, by decide, by decide⟩, for_range (lo := 4) (n := 6) (fun i σ H' => ∃ (o6 o7 : Option V), σ = [some (.ref a), some (.int m), some (.ref L), some v, some (.ref W), o5, o6, o7] ∧ Same H7 H') ⟨none, none, rfl, Same.refl _⟩ ?_ ?_⟩
      · rintro i σ H8 hi ⟨o6, o7, rfl, s8⟩
        refine ⟨s8.seq hS, by omega, fun c => ⟨t, ⟨s8.seq hS, tr_up (kt_of s8) _ _ r2, s8 _ _ e2, tok⟩, fun v' t' H9 s9 h9 l9 r9 => ?_⟩⟩
        refine ⟨t', ⟨h9, l9, r9⟩, fun H10 s10 => ⟨fun h => nb h, fun _ => ⟨t', ⟨th_up s10 _ _ h9, l9, r9⟩, fun H11 s11 => ⟨fun h => nb h, fun _ => ?_⟩⟩⟩⟩
        refine fun W2 hW2 => ⟨t', ⟨th_up ((s10.trans s11).trans (same_upd hW2)) _ _ h9, l9, r9⟩, fun H12 s12 => ⟨fun h => nb h, fun _ => ⟨_, _, rfl, s8.trans (s9.trans (s10.trans (s11.trans ((same_upd hW2).trans s12))))⟩⟩⟩
      rintro σ H8 ⟨o6, o7, rfl, s8⟩
      have r2 := tr_up (kt_of s8) _ _ r2
      refine ⟨thO t, ⟨th_O t v r2 tok.nm, l40⟩, fun e => (by rw [ro] at e; cases e), fun l' e D9 H9 s9 _ e9 => ?_⟩
      rw [ro] at e
      cases e
      refine ⟨_, _, rp_strs (SqL.of e9), rp_strs ((s8.trans s9).seq (SqL.of e2)), sh, sh, ?_⟩
      rw [eqv_shaped sh]
      refine ⟨fun _ => .inr ⟨t, w, ⟨tr_up (kt_of s9) _ _ r2, tok, wa.up (s8.trans s9)⟩, fun LL ys H10 s10 _ e10 hy => ⟨_, .inl (SqL.of e10), ?_⟩⟩, fun h => nb h⟩
      rw [hy, l1]
      show Q (.bl (decide (m = m))) H10
      rw [decide_eq_true rfl]
      exact k H10
theorem ok_all {ns : List Int} (d_is_whole : Dfn K mg "is_whole" s_is_whole ["thing"]) (d_fraction : Dfn K mg "fraction" s_fraction ["top", "bottom"]) (d_greatest_divisor : Dfn K mg "greatest_divisor" s_greatest_divisor ["one", "other"]) (d_plus : Dfn K mg "plus" s_plus ["one", "other"]) (d_times : Dfn K mg "times" s_times ["one", "other"]) (d_is_name : Dfn K mg "is_name" s_is_name ["thing"]) (d_share : Dfn K mg "share" s_share ["worth", "other", "side", "edge"]) (d_odds : Dfn K mg "odds" s_odds ["worth", "other", "side", "edge"]) (d_leaves : Dfn K mg "leaves" s_leaves ["tree"]) (d_tree_shares : Dfn K mg "tree_shares" s_tree_shares ["tree", "worths"]) (d_check_worths : Dfn K mg "check_worths" s_check_worths ["names", "worths"]) (d_shares_of : Dfn K mg "shares_of" s_shares_of ["tree", "worths"]) (d_passed : Dfn K mg "passed" s_passed ["own", "others", "worths"]) (d_win_over : Dfn K mg "win_over" s_win_over ["name", "others", "worths"]) (d_game_share : Dfn K mg "game_share" s_game_share ["one", "other", "worths"]) (d_l_cell_at : Dfn K mg "_law_cell_at" s_l_cell_at ["_law_script", "_law_k"]) (d_l_names : Dfn K mg "_law_names" s_l_names ["_law_cell", "_law_many"]) (d_l_tree : Dfn K mg "_law_tree" s_l_tree ["_law_script", "_law_names_here", "_law_at"]) (d_l_odd : Dfn K mg "_law_odd" s_l_odd ["_law_kind", "_law_cell", "_law_one"]) (d_l_put : Dfn K mg "_law_put" s_l_put ["_law_tree_here", "_law_goal", "_law_odd_here"]) (d_l_spoiled : Dfn K mg "_law_spoiled" s_l_spoiled ["_law_script", "_law_tree_here", "_law_names_here", "_law_cell"]) (d_l_refused : Dfn K mg "_law_refused" s_l_refused ["_law_thing", "_law_worths", "_law_told"]) (d_law : Dfn K mg "law" s_law ["_law_script"]) (er : Errs K mg c_LadderError c_NoBook c_NoFit c_NoGame c_NoNumber c_NoPlayer c_NoRow c_NoStretch c_NoTable c_NoTree c_NoWorth) (n_ValueError : mg "ValueError" = none) (n_abs : mg "abs" = none) (n_all : mg "all" = none) (n_bool : mg "bool" = none) (n_dict : mg "dict" = none) (n_int : mg "int" = none) (n_isinstance : mg "isinstance" = none) (n_len : mg "len" = none) (n_range : mg "range" = none) (n_sorted : mg "sorted" = none) (n_str : mg "str" = none) (n_tuple : mg "tuple" = none) (v_LETTERS : Cst mg "LETTERS" (.str "abcdefghijklmnopqrstuvwxyz")) (v_LONGEST_NAME : Cst mg "LONGEST_NAME" (.int (8))) (v_MOST_NAMES : Cst mg "MOST_NAMES" (.int (8))) : Cal P w K mg base "law" ["_law_script"] 20 (sp_law K ns) := by
  have c_is_whole : Cal P w K mg base "is_whole" ["thing"] 1 (sp_is_whole K ns) := ok_is_whole d_is_whole er n_isinstance n_bool n_int
  have c_greatest_divisor : Cal P w K mg base "greatest_divisor" ["one", "other"] 1 (sp_greatest_divisor K ns) := ok_greatest_divisor d_greatest_divisor er n_abs
  have c_is_name : Cal P w K mg base "is_name" ["thing"] 1 (sp_is_name K ns) := ok_is_name d_is_name er n_all n_len n_isinstance n_str v_LETTERS v_LONGEST_NAME
  have c_odds : Cal P w K mg base "odds" ["worth", "other", "side", "edge"] 1 (sp_odds K ns) := ok_odds d_odds er
  have c_check_worths : Cal P w K mg base "check_worths" ["names", "worths"] 1 (sp_check_worths K ns) := ok_check_worths d_check_worths er
  have c_l_cell_at : Cal P w K mg base "_law_cell_at" ["_law_script", "_law_k"] 1 (sp_l_cell_at K ns) := ok_l_cell_at d_l_cell_at er n_len
  have c_l_names : Cal P w K mg base "_law_names" ["_law_cell", "_law_many"] 1 (sp_l_names K ns) := ok_l_names d_l_names er n_range
  have c_l_odd : Cal P w K mg base "_law_odd" ["_law_kind", "_law_cell", "_law_one"] 1 (sp_l_odd K ns) := ok_l_odd d_l_odd er
  have c_fraction : Cal P w K mg base "fraction" ["top", "bottom"] 2 (sp_fraction K ns) := ok_fraction d_fraction er c_greatest_divisor c_is_whole
  have c_leaves : Cal P w K mg base "leaves" ["tree"] 2 (sp_leaves K ns) := ok_leaves d_leaves er n_len n_isinstance n_tuple v_MOST_NAMES c_is_name
  have c_plus : Cal P w K mg base "plus" ["one", "other"] 3 (sp_plus K ns) := ok_plus d_plus er c_fraction
  have c_times : Cal P w K mg base "times" ["one", "other"] 3 (sp_times K ns) := ok_times d_times er c_fraction
  have c_share : Cal P w K mg base "share" ["worth", "other", "side", "edge"] 3 (sp_share K ns) := ok_share d_share er c_fraction c_odds
  have c_game_share : Cal P w K mg base "game_share" ["one", "other", "worths"] 4 (sp_game_share K ns) := ok_game_share d_game_share er c_share
  have c_win_over : Cal P w K mg base "win_over" ["name", "others", "worths"] 5 (sp_win_over K ns) := ok_win_over d_win_over er c_plus c_times c_game_share
  have c_passed : Cal P w K mg base "passed" ["own", "others", "worths"] 6 (sp_passed K ns) := ok_passed d_passed er n_dict c_times c_win_over
  have c_shares_of : Cal P w K mg base "shares_of" ["tree", "worths"] 15 (sp_shares_of K ns) := ok_shares_of d_shares_of er n_isinstance n_str c_passed
  have c_tree_shares : Cal P w K mg base "tree_shares" ["tree", "worths"] 16 (sp_tree_shares K ns) := ok_tree_shares d_tree_shares er n_sorted c_shares_of c_check_worths c_leaves
  have c_l_put : Cal P w K mg base "_law_put" ["_law_tree_here", "_law_goal", "_law_odd_here"] 17 (sp_l_put K ns) := ok_l_put d_l_put er n_isinstance n_str
  have c_l_refused : Cal P w K mg base "_law_refused" ["_law_thing", "_law_worths", "_law_told"] 17 (sp_l_refused K ns) := ok_l_refused d_l_refused er n_isinstance n_ValueError c_tree_shares c_leaves
  have c_l_tree : Cal P w K mg base "_law_tree" ["_law_script", "_law_names_here", "_law_at"] 18 (sp_l_tree K ns) := ok_l_tree d_l_tree er n_len c_l_cell_at
  have c_l_spoiled : Cal P w K mg base "_law_spoiled" ["_law_script", "_law_tree_here", "_law_names_here", "_law_cell"] 19 (sp_l_spoiled K ns) := ok_l_spoiled d_l_spoiled er n_len c_l_put c_l_odd c_l_tree
  have c_law : Cal P w K mg base "law" ["_law_script"] 20 (sp_law K ns) := ok_law d_law er n_len n_range c_tree_shares c_leaves c_l_refused c_l_spoiled c_l_cell_at c_l_tree c_l_names
  exact c_law
end
noncomputable def KF : PySem.Params → PySem.W.Frag := fun P =>
  (nat_lit 2, .mk .none .none (.dict #[]) #[]) ::
  (nat_lit 3, .mk (.type "dict") .none (.dict #[.mk (PySem.PyData.keyHash P "__name__") (.str "__name__" 165) (.str "law_ladderworth_k62_no_tree" 528), .mk (PySem.PyData.keyHash P "__doc__") (.str "__doc__" 166) .none, .mk (PySem.PyData.keyHash P "__package__") (.str "__package__" 167) .none, .mk (PySem.PyData.keyHash P "__loader__") (.str "__loader__" 168) (.builtin "__main__.__loader__#opaque"), .mk (PySem.PyData.keyHash P "__spec__") (.str "__spec__" 169) .none, .mk (PySem.PyData.keyHash P "__annotations__") (.str "__annotations__" 170) (.ref 6), .mk (PySem.PyData.keyHash P "__builtins__") (.str "__builtins__" 171) (.ref 4), .mk (PySem.PyData.keyHash P "__file__") (.str "__file__" 173) (.str "/claim/cut.py" 172), .mk (PySem.PyData.keyHash P "__cached__") (.str "__cached__" 174) .none, .mk (PySem.PyData.keyHash P "LadderError") (.str "LadderError" 206) (.ref 24), .mk (PySem.PyData.keyHash P "NoNumber") (.str "NoNumber" 222) (.ref 37), .mk (PySem.PyData.keyHash P "NoStretch") (.str "NoStretch" 238) (.ref 49), .mk (PySem.PyData.keyHash P "NoGame") (.str "NoGame" 254) (.ref 61), .mk (PySem.PyData.keyHash P "NoBook") (.str "NoBook" 270) (.ref 73), .mk (PySem.PyData.keyHash P "NoPlayer") (.str "NoPlayer" 286) (.ref 85), .mk (PySem.PyData.keyHash P "NoWorth") (.str "NoWorth" 302) (.ref 97), .mk (PySem.PyData.keyHash P "NoFit") (.str "NoFit" 327) (.ref 116), .mk (PySem.PyData.keyHash P "NoTable") (.str "NoTable" 343) (.ref 128), .mk (PySem.PyData.keyHash P "NoTree") (.str "NoTree" 359) (.ref 140), .mk (PySem.PyData.keyHash P "NoRow") (.str "NoRow" 375) (.ref 152), .mk (PySem.PyData.keyHash P "copied") (.str "copied" 381) (.ref 159), .mk (PySem.PyData.keyHash P "is_whole") (.str "is_whole" 390) (.ref 166), .mk (PySem.PyData.keyHash P "fraction") (.str "fraction" 399) (.ref 173), .mk (PySem.PyData.keyHash P "greatest_divisor") (.str "greatest_divisor" 408) (.ref 180), .mk (PySem.PyData.keyHash P "plus") (.str "plus" 416) (.ref 187), .mk (PySem.PyData.keyHash P "times") (.str "times" 424) (.ref 194), .mk (PySem.PyData.keyHash P "LETTERS") (.str "LETTERS" 428) (.str "abcdefghijklmnopqrstuvwxyz" 427), .mk (PySem.PyData.keyHash P "LONGEST_NAME") (.str "LONGEST_NAME" 430) (.int 8 429), .mk (PySem.PyData.keyHash P "is_name") (.str "is_name" 436) (.ref 199), .mk (PySem.PyData.keyHash P "share") (.str "share" 449) (.ref 206), .mk (PySem.PyData.keyHash P "odds") (.str "odds" 461) (.ref 213), .mk (PySem.PyData.keyHash P "MOST_NAMES") (.str "MOST_NAMES" 465) (.int 8 464), .mk (PySem.PyData.keyHash P "leaves") (.str "leaves" 475) (.ref 220), .mk (PySem.PyData.keyHash P "tree_shares") (.str "tree_shares" 481) (.ref 225), .mk (PySem.PyData.keyHash P "check_worths") (.str "check_worths" 490) (.ref 232), .mk (PySem.PyData.keyHash P "shares_of") (.str "shares_of" 501) (.ref 239), .mk (PySem.PyData.keyHash P "passed") (.str "passed" 507) (.ref 244), .mk (PySem.PyData.keyHash P "win_over") (.str "win_over" 518) (.ref 251), .mk (PySem.PyData.keyHash P "game_share") (.str "game_share" 527) (.ref 258), .mk (PySem.PyData.keyHash P "_law_cell_at") (.str "_law_cell_at" 537) (.ref 265), .mk (PySem.PyData.keyHash P "_law_names") (.str "_law_names" 551) (.ref 272), .mk (PySem.PyData.keyHash P "_law_tree") (.str "_law_tree" 561) (.ref 279), .mk (PySem.PyData.keyHash P "_law_odd") (.str "_law_odd" 571) (.ref 286), .mk (PySem.PyData.keyHash P "_law_put") (.str "_law_put" 580) (.ref 293), .mk (PySem.PyData.keyHash P "_law_spoiled") (.str "_law_spoiled" 586) (.ref 298), .mk (PySem.PyData.keyHash P "_law_refused") (.str "_law_refused" 598) (.ref 305), .mk (PySem.PyData.keyHash P "law") (.str "law" 612) (.ref 312)] 47) #[]) ::
  (nat_lit 23, .mk (.type "dict") .none (.dict #[.mk (PySem.PyData.keyHash P "__module__") (.str "__module__" 196) (.str "ladderworth.errors" 187), .mk (PySem.PyData.keyHash P "__firstlineno__") (.str "__firstlineno__" 200) (.int 2 199), .mk (PySem.PyData.keyHash P "__static_attributes__") (.str "__static_attributes__" 201) (.ref 22), .mk (PySem.PyData.keyHash P "__weakref__") (.str "__weakref__" 203) (.ref 25), .mk (PySem.PyData.keyHash P "__doc__") (.str "__doc__" 204) .none] 3) #[]) ::
  (nat_lit 24, .mk (.type "type") .none (.cls (.mk "LadderError" [.type "ValueError"] [.ref 24, .type "ValueError", .type "Exception", .type "BaseException", .type "object"] 23 "LadderError" true [] [.ref 37, .ref 49, .ref 61, .ref 73, .ref 85, .ref 97, .ref 116, .ref 128, .ref 140, .ref 152] false .none false)) #[.some (.ref 15), .none, .some (.str "LadderError" 189), .some (.str "LadderError" 197), .some (.builtin "ValueError.__new__"), .some (.bool true)]) ::
  (nat_lit 36, .mk (.type "dict") .none (.dict #[.mk (PySem.PyData.keyHash P "__module__") (.str "__module__" 214) (.str "ladderworth.errors" 187), .mk (PySem.PyData.keyHash P "__firstlineno__") (.str "__firstlineno__" 218) (.int 4 217), .mk (PySem.PyData.keyHash P "__static_attributes__") (.str "__static_attributes__" 219) (.ref 35), .mk (PySem.PyData.keyHash P "__doc__") (.str "__doc__" 220) .none] 2) #[]) ::
  (nat_lit 37, .mk (.type "type") .none (.cls (.mk "NoNumber" [.ref 24] [.ref 37, .ref 24, .type "ValueError", .type "Exception", .type "BaseException", .type "object"] 36 "NoNumber" true [] [] false .none false)) #[.some (.ref 28), .none, .some (.str "NoNumber" 207), .some (.str "NoNumber" 215), .some (.builtin "ValueError.__new__"), .some (.bool true)]) ::
  (nat_lit 48, .mk (.type "dict") .none (.dict #[.mk (PySem.PyData.keyHash P "__module__") (.str "__module__" 230) (.str "ladderworth.errors" 187), .mk (PySem.PyData.keyHash P "__firstlineno__") (.str "__firstlineno__" 234) (.int 6 233), .mk (PySem.PyData.keyHash P "__static_attributes__") (.str "__static_attributes__" 235) (.ref 47), .mk (PySem.PyData.keyHash P "__doc__") (.str "__doc__" 236) .none] 2) #[]) ::
  (nat_lit 49, .mk (.type "type") .none (.cls (.mk "NoStretch" [.ref 24] [.ref 49, .ref 24, .type "ValueError", .type "Exception", .type "BaseException", .type "object"] 48 "NoStretch" true [] [] false .none false)) #[.some (.ref 40), .none, .some (.str "NoStretch" 223), .some (.str "NoStretch" 231), .some (.builtin "ValueError.__new__"), .some (.bool true)]) ::
  (nat_lit 60, .mk (.type "dict") .none (.dict #[.mk (PySem.PyData.keyHash P "__module__") (.str "__module__" 246) (.str "ladderworth.errors" 187), .mk (PySem.PyData.keyHash P "__firstlineno__") (.str "__firstlineno__" 250) (.int 8 249), .mk (PySem.PyData.keyHash P "__static_attributes__") (.str "__static_attributes__" 251) (.ref 59), .mk (PySem.PyData.keyHash P "__doc__") (.str "__doc__" 252) .none] 2) #[]) ::
  (nat_lit 61, .mk (.type "type") .none (.cls (.mk "NoGame" [.ref 24] [.ref 61, .ref 24, .type "ValueError", .type "Exception", .type "BaseException", .type "object"] 60 "NoGame" true [] [] false .none false)) #[.some (.ref 52), .none, .some (.str "NoGame" 239), .some (.str "NoGame" 247), .some (.builtin "ValueError.__new__"), .some (.bool true)]) ::
  (nat_lit 72, .mk (.type "dict") .none (.dict #[.mk (PySem.PyData.keyHash P "__module__") (.str "__module__" 262) (.str "ladderworth.errors" 187), .mk (PySem.PyData.keyHash P "__firstlineno__") (.str "__firstlineno__" 266) (.int 10 265), .mk (PySem.PyData.keyHash P "__static_attributes__") (.str "__static_attributes__" 267) (.ref 71), .mk (PySem.PyData.keyHash P "__doc__") (.str "__doc__" 268) .none] 2) #[]) ::
  (nat_lit 73, .mk (.type "type") .none (.cls (.mk "NoBook" [.ref 24] [.ref 73, .ref 24, .type "ValueError", .type "Exception", .type "BaseException", .type "object"] 72 "NoBook" true [] [] false .none false)) #[.some (.ref 64), .none, .some (.str "NoBook" 255), .some (.str "NoBook" 263), .some (.builtin "ValueError.__new__"), .some (.bool true)]) ::
  (nat_lit 84, .mk (.type "dict") .none (.dict #[.mk (PySem.PyData.keyHash P "__module__") (.str "__module__" 278) (.str "ladderworth.errors" 187), .mk (PySem.PyData.keyHash P "__firstlineno__") (.str "__firstlineno__" 282) (.int 12 281), .mk (PySem.PyData.keyHash P "__static_attributes__") (.str "__static_attributes__" 283) (.ref 83), .mk (PySem.PyData.keyHash P "__doc__") (.str "__doc__" 284) .none] 2) #[]) ::
  (nat_lit 85, .mk (.type "type") .none (.cls (.mk "NoPlayer" [.ref 24] [.ref 85, .ref 24, .type "ValueError", .type "Exception", .type "BaseException", .type "object"] 84 "NoPlayer" true [] [] false .none false)) #[.some (.ref 76), .none, .some (.str "NoPlayer" 271), .some (.str "NoPlayer" 279), .some (.builtin "ValueError.__new__"), .some (.bool true)]) ::
  (nat_lit 96, .mk (.type "dict") .none (.dict #[.mk (PySem.PyData.keyHash P "__module__") (.str "__module__" 294) (.str "ladderworth.errors" 187), .mk (PySem.PyData.keyHash P "__firstlineno__") (.str "__firstlineno__" 298) (.int 14 297), .mk (PySem.PyData.keyHash P "__static_attributes__") (.str "__static_attributes__" 299) (.ref 95), .mk (PySem.PyData.keyHash P "__doc__") (.str "__doc__" 300) .none] 2) #[]) ::
  (nat_lit 97, .mk (.type "type") .none (.cls (.mk "NoWorth" [.ref 24] [.ref 97, .ref 24, .type "ValueError", .type "Exception", .type "BaseException", .type "object"] 96 "NoWorth" true [] [] false .none false)) #[.some (.ref 88), .none, .some (.str "NoWorth" 287), .some (.str "NoWorth" 295), .some (.builtin "ValueError.__new__"), .some (.bool true)]) ::
  (nat_lit 115, .mk (.type "dict") .none (.dict #[.mk (PySem.PyData.keyHash P "__module__") (.str "__module__" 310) (.str "ladderworth.errors" 187), .mk (PySem.PyData.keyHash P "__firstlineno__") (.str "__firstlineno__" 314) (.int 16 313), .mk (PySem.PyData.keyHash P "__init__") (.str "__init__" 322) (.ref 113), .mk (PySem.PyData.keyHash P "__static_attributes__") (.str "__static_attributes__" 324) (.ref 114), .mk (PySem.PyData.keyHash P "__doc__") (.str "__doc__" 325) .none] 2) #[]) ::
  (nat_lit 116, .mk (.type "type") .none (.cls (.mk "NoFit" [.ref 24] [.ref 116, .ref 24, .type "ValueError", .type "Exception", .type "BaseException", .type "object"] 115 "NoFit" true [] [] false .none false)) #[.some (.ref 100), .none, .some (.str "NoFit" 303), .some (.str "NoFit" 311), .some (.builtin "ValueError.__new__"), .some (.bool true)]) ::
  (nat_lit 127, .mk (.type "dict") .none (.dict #[.mk (PySem.PyData.keyHash P "__module__") (.str "__module__" 335) (.str "ladderworth.errors" 187), .mk (PySem.PyData.keyHash P "__firstlineno__") (.str "__firstlineno__" 339) (.int 21 338), .mk (PySem.PyData.keyHash P "__static_attributes__") (.str "__static_attributes__" 340) (.ref 126), .mk (PySem.PyData.keyHash P "__doc__") (.str "__doc__" 341) .none] 2) #[]) ::
  (nat_lit 128, .mk (.type "type") .none (.cls (.mk "NoTable" [.ref 24] [.ref 128, .ref 24, .type "ValueError", .type "Exception", .type "BaseException", .type "object"] 127 "NoTable" true [] [] false .none false)) #[.some (.ref 119), .none, .some (.str "NoTable" 328), .some (.str "NoTable" 336), .some (.builtin "ValueError.__new__"), .some (.bool true)]) ::
  (nat_lit 139, .mk (.type "dict") .none (.dict #[.mk (PySem.PyData.keyHash P "__module__") (.str "__module__" 351) (.str "ladderworth.errors" 187), .mk (PySem.PyData.keyHash P "__firstlineno__") (.str "__firstlineno__" 355) (.int 23 354), .mk (PySem.PyData.keyHash P "__static_attributes__") (.str "__static_attributes__" 356) (.ref 138), .mk (PySem.PyData.keyHash P "__doc__") (.str "__doc__" 357) .none] 2) #[]) ::
  (nat_lit 140, .mk (.type "type") .none (.cls (.mk "NoTree" [.ref 24] [.ref 140, .ref 24, .type "ValueError", .type "Exception", .type "BaseException", .type "object"] 139 "NoTree" true [] [] false .none false)) #[.some (.ref 131), .none, .some (.str "NoTree" 344), .some (.str "NoTree" 352), .some (.builtin "ValueError.__new__"), .some (.bool true)]) ::
  (nat_lit 151, .mk (.type "dict") .none (.dict #[.mk (PySem.PyData.keyHash P "__module__") (.str "__module__" 367) (.str "ladderworth.errors" 187), .mk (PySem.PyData.keyHash P "__firstlineno__") (.str "__firstlineno__" 371) (.int 25 370), .mk (PySem.PyData.keyHash P "__static_attributes__") (.str "__static_attributes__" 372) (.ref 150), .mk (PySem.PyData.keyHash P "__doc__") (.str "__doc__" 373) .none] 2) #[]) ::
  (nat_lit 152, .mk (.type "type") .none (.cls (.mk "NoRow" [.ref 24] [.ref 152, .ref 24, .type "ValueError", .type "Exception", .type "BaseException", .type "object"] 151 "NoRow" true [] [] false .none false)) #[.some (.ref 143), .none, .some (.str "NoRow" 360), .some (.str "NoRow" 368), .some (.builtin "ValueError.__new__"), .some (.bool true)]) ::
  (nat_lit 165, .mk (.type "code") .none (.fields #[.str "is_whole" 384, .str "is_whole" 385, .str "/claim/cut.py" 386, .int 34 0, .int 1 0, .int 0 0, .int 0 0, .int 3 0, .ref 160, .bool true, .int 181 0, .ref 161, .none, .ref 162, .ref 163, .ref 164, .int 388 0, .int 34 0, .str "/claim/cut.py" 389]) #[]) ::
  (nat_lit 166, .mk (.type "function") .none (.func (PySem.W.fnOf "is_whole" "is_whole" (defArgs s_is_whole) (defBody s_is_whole) (defScope s_is_whole) .none .none .none (.str "ladderworth.ratios" 382) .none (.ref 165) .none)) #[]) ::
  (nat_lit 172, .mk (.type "code") .none (.fields #[.str "fraction" 391, .str "fraction" 392, .str "/claim/cut.py" 393, .int 36 0, .int 2 0, .int 0 0, .int 0 0, .int 3 0, .ref 167, .bool true, .int 181 0, .ref 168, .none, .ref 169, .ref 170, .ref 171, .int 397 0, .int 36 0, .str "/claim/cut.py" 398]) #[]) ::
  (nat_lit 173, .mk (.type "function") .none (.func (PySem.W.fnOf "fraction" "fraction" (defArgs s_fraction) (defBody s_fraction) (defScope s_fraction) .none .none .none (.str "ladderworth.ratios" 382) .none (.ref 172) .none)) #[]) ::
  (nat_lit 179, .mk (.type "code") .none (.fields #[.str "greatest_divisor" 400, .str "greatest_divisor" 401, .str "/claim/cut.py" 402, .int 45 0, .int 2 0, .int 0 0, .int 0 0, .int 3 0, .ref 174, .bool true, .int 181 0, .ref 175, .none, .ref 176, .ref 177, .ref 178, .int 406 0, .int 45 0, .str "/claim/cut.py" 407]) #[]) ::
  (nat_lit 180, .mk (.type "function") .none (.func (PySem.W.fnOf "greatest_divisor" "greatest_divisor" (defArgs s_greatest_divisor) (defBody s_greatest_divisor) (defScope s_greatest_divisor) .none .none .none (.str "ladderworth.ratios" 382) .none (.ref 179) .none)) #[]) ::
  (nat_lit 186, .mk (.type "code") .none (.fields #[.str "plus" 409, .str "plus" 410, .str "/claim/cut.py" 411, .int 51 0, .int 2 0, .int 0 0, .int 0 0, .int 3 0, .ref 181, .bool true, .int 181 0, .ref 182, .none, .ref 183, .ref 184, .ref 185, .int 414 0, .int 51 0, .str "/claim/cut.py" 415]) #[]) ::
  (nat_lit 187, .mk (.type "function") .none (.func (PySem.W.fnOf "plus" "plus" (defArgs s_plus) (defBody s_plus) (defScope s_plus) .none .none .none (.str "ladderworth.ratios" 382) .none (.ref 186) .none)) #[]) ::
  (nat_lit 193, .mk (.type "code") .none (.fields #[.str "times" 417, .str "times" 418, .str "/claim/cut.py" 419, .int 53 0, .int 2 0, .int 0 0, .int 0 0, .int 3 0, .ref 188, .bool true, .int 181 0, .ref 189, .none, .ref 190, .ref 191, .ref 192, .int 422 0, .int 53 0, .str "/claim/cut.py" 423]) #[]) ::
  (nat_lit 194, .mk (.type "function") .none (.func (PySem.W.fnOf "times" "times" (defArgs s_times) (defBody s_times) (defScope s_times) .none .none .none (.str "ladderworth.ratios" 382) .none (.ref 193) .none)) #[]) ::
  (nat_lit 198, .mk (.type "code") .none (.fields #[.str "is_name" 431, .str "is_name" 432, .str "/claim/cut.py" 433, .int 58 0, .int 1 0, .int 0 0, .int 0 0, .int 3 0, .ref 195, .bool true, .int 181 0, .ref 196, .none, .none, .none, .ref 197, .int 434 0, .int 58 0, .str "/claim/cut.py" 435]) #[]) ::
  (nat_lit 199, .mk (.type "function") .none (.func (PySem.W.fnOf "is_name" "is_name" (defArgs s_is_name) (defBody s_is_name) (defScope s_is_name) .none .none .none (.str "ladderworth.games" 425) .none (.ref 198) .none)) #[]) ::
  (nat_lit 205, .mk (.type "code") .none (.fields #[.str "share" 439, .str "share" 440, .str "/claim/cut.py" 441, .int 63 0, .int 4 0, .int 0 0, .int 0 0, .int 3 0, .ref 200, .bool true, .int 181 0, .ref 201, .none, .ref 202, .ref 203, .ref 204, .int 447 0, .int 63 0, .str "/claim/cut.py" 448]) #[]) ::
  (nat_lit 206, .mk (.type "function") .none (.func (PySem.W.fnOf "share" "share" (defArgs s_share) (defBody s_share) (defScope s_share) .none .none .none (.str "ladderworth.sums" 437) .none (.ref 205) .none)) #[]) ::
  (nat_lit 212, .mk (.type "code") .none (.fields #[.str "odds" 450, .str "odds" 451, .str "/claim/cut.py" 452, .int 66 0, .int 4 0, .int 0 0, .int 0 0, .int 3 0, .ref 207, .bool true, .int 181 0, .ref 208, .none, .ref 209, .ref 210, .ref 211, .int 459 0, .int 66 0, .str "/claim/cut.py" 460]) #[]) ::
  (nat_lit 213, .mk (.type "function") .none (.func (PySem.W.fnOf "odds" "odds" (defArgs s_odds) (defBody s_odds) (defScope s_odds) .none .none .none (.str "ladderworth.sums" 437) .none (.ref 212) .none)) #[]) ::
  (nat_lit 219, .mk (.type "code") .none (.fields #[.str "leaves" 466, .str "leaves" 467, .str "/claim/cut.py" 468, .int 76 0, .int 1 0, .int 0 0, .int 0 0, .int 3 0, .ref 214, .bool true, .int 181 0, .ref 215, .none, .ref 216, .ref 217, .ref 218, .int 473 0, .int 76 0, .str "/claim/cut.py" 474]) #[]) ::
  (nat_lit 220, .mk (.type "function") .none (.func (PySem.W.fnOf "leaves" "leaves" (defArgs s_leaves) (defBody s_leaves) (defScope s_leaves) .none .none .none (.str "ladderworth.trees" 462) .none (.ref 219) .none)) #[]) ::
  (nat_lit 224, .mk (.type "code") .none (.fields #[.str "tree_shares" 476, .str "tree_shares" 477, .str "/claim/cut.py" 478, .int 88 0, .int 2 0, .int 0 0, .int 0 0, .int 3 0, .ref 221, .bool true, .int 181 0, .ref 222, .none, .none, .none, .ref 223, .int 479 0, .int 88 0, .str "/claim/cut.py" 480]) #[]) ::
  (nat_lit 225, .mk (.type "function") .none (.func (PySem.W.fnOf "tree_shares" "tree_shares" (defArgs s_tree_shares) (defBody s_tree_shares) (defScope s_tree_shares) .none .none .none (.str "ladderworth.trees" 462) .none (.ref 224) .none)) #[]) ::
  (nat_lit 231, .mk (.type "code") .none (.fields #[.str "check_worths" 482, .str "check_worths" 483, .str "/claim/cut.py" 484, .int 92 0, .int 2 0, .int 0 0, .int 0 0, .int 3 0, .ref 226, .bool true, .int 181 0, .ref 227, .none, .ref 228, .ref 229, .ref 230, .int 488 0, .int 92 0, .str "/claim/cut.py" 489]) #[]) ::
  (nat_lit 232, .mk (.type "function") .none (.func (PySem.W.fnOf "check_worths" "check_worths" (defArgs s_check_worths) (defBody s_check_worths) (defScope s_check_worths) .none .none .none (.str "ladderworth.trees" 462) .none (.ref 231) .none)) #[]) ::
  (nat_lit 238, .mk (.type "code") .none (.fields #[.str "shares_of" 491, .str "shares_of" 492, .str "/claim/cut.py" 493, .int 96 0, .int 2 0, .int 0 0, .int 0 0, .int 3 0, .ref 233, .bool true, .int 181 0, .ref 234, .none, .ref 235, .ref 236, .ref 237, .int 499 0, .int 96 0, .str "/claim/cut.py" 500]) #[]) ::
  (nat_lit 239, .mk (.type "function") .none (.func (PySem.W.fnOf "shares_of" "shares_of" (defArgs s_shares_of) (defBody s_shares_of) (defScope s_shares_of) .none .none .none (.str "ladderworth.trees" 462) .none (.ref 238) .none)) #[]) ::
  (nat_lit 243, .mk (.type "code") .none (.fields #[.str "passed" 502, .str "passed" 503, .str "/claim/cut.py" 504, .int 104 0, .int 3 0, .int 0 0, .int 0 0, .int 3 0, .ref 240, .bool true, .int 181 0, .ref 241, .none, .none, .none, .ref 242, .int 505 0, .int 104 0, .str "/claim/cut.py" 506]) #[]) ::
  (nat_lit 244, .mk (.type "function") .none (.func (PySem.W.fnOf "passed" "passed" (defArgs s_passed) (defBody s_passed) (defScope s_passed) .none .none .none (.str "ladderworth.trees" 462) .none (.ref 243) .none)) #[]) ::
  (nat_lit 250, .mk (.type "code") .none (.fields #[.str "win_over" 508, .str "win_over" 509, .str "/claim/cut.py" 510, .int 106 0, .int 3 0, .int 0 0, .int 0 0, .int 3 0, .ref 245, .bool true, .int 181 0, .ref 246, .none, .ref 247, .ref 248, .ref 249, .int 516 0, .int 106 0, .str "/claim/cut.py" 517]) #[]) ::
  (nat_lit 251, .mk (.type "function") .none (.func (PySem.W.fnOf "win_over" "win_over" (defArgs s_win_over) (defBody s_win_over) (defScope s_win_over) .none .none .none (.str "ladderworth.trees" 462) .none (.ref 250) .none)) #[]) ::
  (nat_lit 257, .mk (.type "code") .none (.fields #[.str "game_share" 519, .str "game_share" 520, .str "/claim/cut.py" 521, .int 111 0, .int 3 0, .int 0 0, .int 0 0, .int 3 0, .ref 252, .bool true, .int 181 0, .ref 253, .none, .ref 254, .ref 255, .ref 256, .int 525 0, .int 111 0, .str "/claim/cut.py" 526]) #[]) ::
  (nat_lit 258, .mk (.type "function") .none (.func (PySem.W.fnOf "game_share" "game_share" (defArgs s_game_share) (defBody s_game_share) (defScope s_game_share) .none .none .none (.str "ladderworth.trees" 462) .none (.ref 257) .none)) #[]) ::
  (nat_lit 264, .mk (.type "code") .none (.fields #[.str "_law_cell_at" 530, .str "_law_cell_at" 531, .str "/claim/cut.py" 532, .int 114 0, .int 2 0, .int 0 0, .int 0 0, .int 3 0, .ref 259, .bool true, .int 181 0, .ref 260, .none, .ref 261, .ref 262, .ref 263, .int 535 0, .int 114 0, .str "/claim/cut.py" 536]) #[]) ::
  (nat_lit 265, .mk (.type "function") .none (.func (PySem.W.fnOf "_law_cell_at" "_law_cell_at" (defArgs s_l_cell_at) (defBody s_l_cell_at) (defScope s_l_cell_at) .none .none .none (.str "law_ladderworth_k62_no_tree" 528) .none (.ref 264) .none)) #[]) ::
  (nat_lit 271, .mk (.type "code") .none (.fields #[.str "_law_names" 538, .str "_law_names" 539, .str "/claim/cut.py" 540, .int 118 0, .int 2 0, .int 0 0, .int 0 0, .int 3 0, .ref 266, .bool true, .int 181 0, .ref 267, .none, .ref 268, .ref 269, .ref 270, .int 549 0, .int 118 0, .str "/claim/cut.py" 550]) #[]) ::
  (nat_lit 272, .mk (.type "function") .none (.func (PySem.W.fnOf "_law_names" "_law_names" (defArgs s_l_names) (defBody s_l_names) (defScope s_l_names) .none .none .none (.str "law_ladderworth_k62_no_tree" 528) .none (.ref 271) .none)) #[]) ::
  (nat_lit 278, .mk (.type "code") .none (.fields #[.str "_law_tree" 552, .str "_law_tree" 553, .str "/claim/cut.py" 554, .int 127 0, .int 3 0, .int 0 0, .int 0 0, .int 3 0, .ref 273, .bool true, .int 181 0, .ref 274, .none, .ref 275, .ref 276, .ref 277, .int 559 0, .int 127 0, .str "/claim/cut.py" 560]) #[]) ::
  (nat_lit 279, .mk (.type "function") .none (.func (PySem.W.fnOf "_law_tree" "_law_tree" (defArgs s_l_tree) (defBody s_l_tree) (defScope s_l_tree) .none .none .none (.str "law_ladderworth_k62_no_tree" 528) .none (.ref 278) .none)) #[]) ::
  (nat_lit 285, .mk (.type "code") .none (.fields #[.str "_law_odd" 562, .str "_law_odd" 563, .str "/claim/cut.py" 564, .int 132 0, .int 3 0, .int 0 0, .int 0 0, .int 3 0, .ref 280, .bool true, .int 181 0, .ref 281, .none, .ref 282, .ref 283, .ref 284, .int 569 0, .int 132 0, .str "/claim/cut.py" 570]) #[]) ::
  (nat_lit 286, .mk (.type "function") .none (.func (PySem.W.fnOf "_law_odd" "_law_odd" (defArgs s_l_odd) (defBody s_l_odd) (defScope s_l_odd) .none .none .none (.str "law_ladderworth_k62_no_tree" 528) .none (.ref 285) .none)) #[]) ::
  (nat_lit 292, .mk (.type "code") .none (.fields #[.str "_law_put" 572, .str "_law_put" 573, .str "/claim/cut.py" 574, .int 136 0, .int 3 0, .int 0 0, .int 0 0, .int 3 0, .ref 287, .bool true, .int 181 0, .ref 288, .none, .ref 289, .ref 290, .ref 291, .int 578 0, .int 136 0, .str "/claim/cut.py" 579]) #[]) ::
  (nat_lit 293, .mk (.type "function") .none (.func (PySem.W.fnOf "_law_put" "_law_put" (defArgs s_l_put) (defBody s_l_put) (defScope s_l_put) .none .none .none (.str "law_ladderworth_k62_no_tree" 528) .none (.ref 292) .none)) #[]) ::
  (nat_lit 297, .mk (.type "code") .none (.fields #[.str "_law_spoiled" 581, .str "_law_spoiled" 582, .str "/claim/cut.py" 583, .int 142 0, .int 4 0, .int 0 0, .int 0 0, .int 3 0, .ref 294, .bool true, .int 181 0, .ref 295, .none, .none, .none, .ref 296, .int 584 0, .int 142 0, .str "/claim/cut.py" 585]) #[]) ::
  (nat_lit 298, .mk (.type "function") .none (.func (PySem.W.fnOf "_law_spoiled" "_law_spoiled" (defArgs s_l_spoiled) (defBody s_l_spoiled) (defScope s_l_spoiled) .none .none .none (.str "law_ladderworth_k62_no_tree" 528) .none (.ref 297) .none)) #[]) ::
  (nat_lit 304, .mk (.type "code") .none (.fields #[.str "_law_refused" 587, .str "_law_refused" 588, .str "/claim/cut.py" 589, .int 151 0, .int 3 0, .int 0 0, .int 0 0, .int 3 0, .ref 299, .bool true, .int 181 0, .ref 300, .none, .ref 301, .ref 302, .ref 303, .int 596 0, .int 151 0, .str "/claim/cut.py" 597]) #[]) ::
  (nat_lit 305, .mk (.type "function") .none (.func (PySem.W.fnOf "_law_refused" "_law_refused" (defArgs s_l_refused) (defBody s_l_refused) (defScope s_l_refused) .none .none .none (.str "law_ladderworth_k62_no_tree" 528) .none (.ref 304) .none)) #[]) ::
  (nat_lit 311, .mk (.type "code") .none (.fields #[.str "law" 599, .str "law" 600, .str "/claim/cut.py" 601, .int 163 0, .int 1 0, .int 0 0, .int 0 0, .int 3 0, .ref 306, .bool true, .int 181 0, .ref 307, .none, .ref 308, .ref 309, .ref 310, .int 610 0, .int 163 0, .str "/claim/cut.py" 611]) #[]) ::
  (nat_lit 312, .mk (.type "function") .none (.func (PySem.W.fnOf "law" "law" (defArgs s_law) (defBody s_law) (defScope s_law) .none .none .none (.str "law_ladderworth_k62_no_tree" 528) .none (.ref 311) .none)) #[]) :: []
def KA : List PySem.Addr := nat_lit 2 :: nat_lit 3 :: nat_lit 23 :: nat_lit 24 :: nat_lit 36 :: nat_lit 37 :: nat_lit 48 :: nat_lit 49 :: nat_lit 60 :: nat_lit 61 :: nat_lit 72 :: nat_lit 73 :: nat_lit 84 :: nat_lit 85 :: nat_lit 96 :: nat_lit 97 :: nat_lit 115 :: nat_lit 116 :: nat_lit 127 :: nat_lit 128 :: nat_lit 139 :: nat_lit 140 :: nat_lit 151 :: nat_lit 152 :: nat_lit 165 :: nat_lit 166 :: nat_lit 172 :: nat_lit 173 :: nat_lit 179 :: nat_lit 180 :: nat_lit 186 :: nat_lit 187 :: nat_lit 193 :: nat_lit 194 :: nat_lit 198 :: nat_lit 199 :: nat_lit 205 :: nat_lit 206 :: nat_lit 212 :: nat_lit 213 :: nat_lit 219 :: nat_lit 220 :: nat_lit 224 :: nat_lit 225 :: nat_lit 231 :: nat_lit 232 :: nat_lit 238 :: nat_lit 239 :: nat_lit 243 :: nat_lit 244 :: nat_lit 250 :: nat_lit 251 :: nat_lit 257 :: nat_lit 258 :: nat_lit 264 :: nat_lit 265 :: nat_lit 271 :: nat_lit 272 :: nat_lit 278 :: nat_lit 279 :: nat_lit 285 :: nat_lit 286 :: nat_lit 292 :: nat_lit 293 :: nat_lit 297 :: nat_lit 298 :: nat_lit 304 :: nat_lit 305 :: nat_lit 311 :: nat_lit 312 :: []
theorem lenE1 : ∀ us : List Value, us.length = 1 → ∃ y0 : Value, us = [y0]
  | [y0], _ => ⟨_, rfl⟩
theorem lenE2 : ∀ us : List Value, us.length = 2 → ∃ y0 y1 : Value, us = [y0, y1]
  | [y0, y1], _ => ⟨_, _, rfl⟩
theorem lenE3 : ∀ us : List Value, us.length = 3 → ∃ y0 y1 y2 : Value, us = [y0, y1, y2]
  | [y0, y1, y2], _ => ⟨_, _, _, rfl⟩
theorem lenE4 : ∀ us : List Value, us.length = 4 → ∃ y0 y1 y2 y3 : Value, us = [y0, y1, y2, y3]
  | [y0, y1, y2, y3], _ => ⟨_, _, _, _, rfl⟩
theorem all_mk {l : PySem.W.OpenLaw} {w : World} {K : PySem.W.Frag} {h : Heap} {mg : Str → Option Value} {fa : Addr} {f0 : Addr} {od0 an0 : Option Addr} {sl0 : Array (Option Value)} {oc0 kV0 dc0 pm0 cd0 ct0 : Value} {f1 : Addr} {od1 an1 : Option Addr} {sl1 : Array (Option Value)} {oc1 kV1 dc1 pm1 cd1 ct1 : Value} {f2 : Addr} {od2 an2 : Option Addr} {sl2 : Array (Option Value)} {oc2 kV2 dc2 pm2 cd2 ct2 : Value} {f3 : Addr} {od3 an3 : Option Addr} {sl3 : Array (Option Value)} {oc3 kV3 dc3 pm3 cd3 ct3 : Value} {f4 : Addr} {od4 an4 : Option Addr} {sl4 : Array (Option Value)} {oc4 kV4 dc4 pm4 cd4 ct4 : Value} {f5 : Addr} {od5 an5 : Option Addr} {sl5 : Array (Option Value)} {oc5 kV5 dc5 pm5 cd5 ct5 : Value} {f6 : Addr} {od6 an6 : Option Addr} {sl6 : Array (Option Value)} {oc6 kV6 dc6 pm6 cd6 ct6 : Value} {f7 : Addr} {od7 an7 : Option Addr} {sl7 : Array (Option Value)} {oc7 kV7 dc7 pm7 cd7 ct7 : Value} {f8 : Addr} {od8 an8 : Option Addr} {sl8 : Array (Option Value)} {oc8 kV8 dc8 pm8 cd8 ct8 : Value} {f9 : Addr} {od9 an9 : Option Addr} {sl9 : Array (Option Value)} {oc9 kV9 dc9 pm9 cd9 ct9 : Value} {f10 : Addr} {od10 an10 : Option Addr} {sl10 : Array (Option Value)} {oc10 kV10 dc10 pm10 cd10 ct10 : Value} {f11 : Addr} {od11 an11 : Option Addr} {sl11 : Array (Option Value)} {oc11 kV11 dc11 pm11 cd11 ct11 : Value} {f12 : Addr} {od12 an12 : Option Addr} {sl12 : Array (Option Value)} {oc12 kV12 dc12 pm12 cd12 ct12 : Value} {f13 : Addr} {od13 an13 : Option Addr} {sl13 : Array (Option Value)} {oc13 kV13 dc13 pm13 cd13 ct13 : Value} {f14 : Addr} {od14 an14 : Option Addr} {sl14 : Array (Option Value)} {oc14 kV14 dc14 pm14 cd14 ct14 : Value} {f15 : Addr} {od15 an15 : Option Addr} {sl15 : Array (Option Value)} {oc15 kV15 dc15 pm15 cd15 ct15 : Value} {f16 : Addr} {od16 an16 : Option Addr} {sl16 : Array (Option Value)} {oc16 kV16 dc16 pm16 cd16 ct16 : Value} {f17 : Addr} {od17 an17 : Option Addr} {sl17 : Array (Option Value)} {oc17 kV17 dc17 pm17 cd17 ct17 : Value} {f18 : Addr} {od18 an18 : Option Addr} {sl18 : Array (Option Value)} {oc18 kV18 dc18 pm18 cd18 ct18 : Value} {f19 : Addr} {od19 an19 : Option Addr} {sl19 : Array (Option Value)} {oc19 kV19 dc19 pm19 cd19 ct19 : Value} {f20 : Addr} {od20 an20 : Option Addr} {sl20 : Array (Option Value)} {oc20 kV20 dc20 pm20 cd20 ct20 : Value} {f21 : Addr} {od21 an21 : Option Addr} {sl21 : Array (Option Value)} {oc21 kV21 dc21 pm21 cd21 ct21 : Value} {f22 : Addr} {od22 an22 : Option Addr} {sl22 : Array (Option Value)} {oc22 kV22 dc22 pm22 cd22 ct22 : Value} {c_LadderError c_NoBook c_NoFit c_NoGame c_NoNumber c_NoPlayer c_NoRow c_NoStretch c_NoTable c_NoTree c_NoWorth : Addr} {t_LETTERS : Tok} {t_LONGEST_NAME : Tok} {t_MOST_NAMES : Tok} (X : K.In h) (G : h.Ns mainGlobals mg) (hfa : mg "law" = some (.ref fa)) (a0 : PySem.W.nsIn K mainGlobals "is_whole" = some (some (.ref f0))) (l0 : K.lookup f0 = some ⟨oc0, od0, .func (PySem.W.fnOf "is_whole" "is_whole" (defArgs s_is_whole) (defBody s_is_whole) (defScope s_is_whole) .none kV0 dc0 pm0 an0 cd0 ct0), sl0⟩) (e0 : PySem.W.codeIn K cd0 "is_whole" = true) (k0 : PySem.W.keepIn K (.ref f0) = true) (a1 : PySem.W.nsIn K mainGlobals "fraction" = some (some (.ref f1))) (l1 : K.lookup f1 = some ⟨oc1, od1, .func (PySem.W.fnOf "fraction" "fraction" (defArgs s_fraction) (defBody s_fraction) (defScope s_fraction) .none kV1 dc1 pm1 an1 cd1 ct1), sl1⟩) (e1 : PySem.W.codeIn K cd1 "fraction" = true) (k1 : PySem.W.keepIn K (.ref f1) = true) (a2 : PySem.W.nsIn K mainGlobals "greatest_divisor" = some (some (.ref f2))) (l2 : K.lookup f2 = some ⟨oc2, od2, .func (PySem.W.fnOf "greatest_divisor" "greatest_divisor" (defArgs s_greatest_divisor) (defBody s_greatest_divisor) (defScope s_greatest_divisor) .none kV2 dc2 pm2 an2 cd2 ct2), sl2⟩) (e2 : PySem.W.codeIn K cd2 "greatest_divisor" = true) (k2 : PySem.W.keepIn K (.ref f2) = true) (a3 : PySem.W.nsIn K mainGlobals "plus" = some (some (.ref f3))) (l3 : K.lookup f3 = some ⟨oc3, od3, .func (PySem.W.fnOf "plus" "plus" (defArgs s_plus) (defBody s_plus) (defScope s_plus) .none kV3 dc3 pm3 an3 cd3 ct3), sl3⟩) (e3 : PySem.W.codeIn K cd3 "plus" = true) (k3 : PySem.W.keepIn K (.ref f3) = true) (a4 : PySem.W.nsIn K mainGlobals "times" = some (some (.ref f4))) (l4 : K.lookup f4 = some ⟨oc4, od4, .func (PySem.W.fnOf "times" "times" (defArgs s_times) (defBody s_times) (defScope s_times) .none kV4 dc4 pm4 an4 cd4 ct4), sl4⟩) (e4 : PySem.W.codeIn K cd4 "times" = true) (k4 : PySem.W.keepIn K (.ref f4) = true) (a5 : PySem.W.nsIn K mainGlobals "is_name" = some (some (.ref f5))) (l5 : K.lookup f5 = some ⟨oc5, od5, .func (PySem.W.fnOf "is_name" "is_name" (defArgs s_is_name) (defBody s_is_name) (defScope s_is_name) .none kV5 dc5 pm5 an5 cd5 ct5), sl5⟩) (e5 : PySem.W.codeIn K cd5 "is_name" = true) (k5 : PySem.W.keepIn K (.ref f5) = true) (a6 : PySem.W.nsIn K mainGlobals "share" = some (some (.ref f6))) (l6 : K.lookup f6 = some ⟨oc6, od6, .func (PySem.W.fnOf "share" "share" (defArgs s_share) (defBody s_share) (defScope s_share) .none kV6 dc6 pm6 an6 cd6 ct6), sl6⟩) (e6 : PySem.W.codeIn K cd6 "share" = true) (k6 : PySem.W.keepIn K (.ref f6) = true) (a7 : PySem.W.nsIn K mainGlobals "odds" = some (some (.ref f7))) (l7 : K.lookup f7 = some ⟨oc7, od7, .func (PySem.W.fnOf "odds" "odds" (defArgs s_odds) (defBody s_odds) (defScope s_odds) .none kV7 dc7 pm7 an7 cd7 ct7), sl7⟩) (e7 : PySem.W.codeIn K cd7 "odds" = true) (k7 : PySem.W.keepIn K (.ref f7) = true) (a8 : PySem.W.nsIn K mainGlobals "leaves" = some (some (.ref f8))) (l8 : K.lookup f8 = some ⟨oc8, od8, .func (PySem.W.fnOf "leaves" "leaves" (defArgs s_leaves) (defBody s_leaves) (defScope s_leaves) .none kV8 dc8 pm8 an8 cd8 ct8), sl8⟩) (e8 : PySem.W.codeIn K cd8 "leaves" = true) (k8 : PySem.W.keepIn K (.ref f8) = true) (a9 : PySem.W.nsIn K mainGlobals "tree_shares" = some (some (.ref f9))) (l9 : K.lookup f9 = some ⟨oc9, od9, .func (PySem.W.fnOf "tree_shares" "tree_shares" (defArgs s_tree_shares) (defBody s_tree_shares) (defScope s_tree_shares) .none kV9 dc9 pm9 an9 cd9 ct9), sl9⟩) (e9 : PySem.W.codeIn K cd9 "tree_shares" = true) (k9 : PySem.W.keepIn K (.ref f9) = true) (a10 : PySem.W.nsIn K mainGlobals "check_worths" = some (some (.ref f10))) (l10 : K.lookup f10 = some ⟨oc10, od10, .func (PySem.W.fnOf "check_worths" "check_worths" (defArgs s_check_worths) (defBody s_check_worths) (defScope s_check_worths) .none kV10 dc10 pm10 an10 cd10 ct10), sl10⟩) (e10 : PySem.W.codeIn K cd10 "check_worths" = true) (k10 : PySem.W.keepIn K (.ref f10) = true) (a11 : PySem.W.nsIn K mainGlobals "shares_of" = some (some (.ref f11))) (l11 : K.lookup f11 = some ⟨oc11, od11, .func (PySem.W.fnOf "shares_of" "shares_of" (defArgs s_shares_of) (defBody s_shares_of) (defScope s_shares_of) .none kV11 dc11 pm11 an11 cd11 ct11), sl11⟩) (e11 : PySem.W.codeIn K cd11 "shares_of" = true) (k11 : PySem.W.keepIn K (.ref f11) = true) (a12 : PySem.W.nsIn K mainGlobals "passed" = some (some (.ref f12))) (l12 : K.lookup f12 = some ⟨oc12, od12, .func (PySem.W.fnOf "passed" "passed" (defArgs s_passed) (defBody s_passed) (defScope s_passed) .none kV12 dc12 pm12 an12 cd12 ct12), sl12⟩) (e12 : PySem.W.codeIn K cd12 "passed" = true) (k12 : PySem.W.keepIn K (.ref f12) = true) (a13 : PySem.W.nsIn K mainGlobals "win_over" = some (some (.ref f13))) (l13 : K.lookup f13 = some ⟨oc13, od13, .func (PySem.W.fnOf "win_over" "win_over" (defArgs s_win_over) (defBody s_win_over) (defScope s_win_over) .none kV13 dc13 pm13 an13 cd13 ct13), sl13⟩) (e13 : PySem.W.codeIn K cd13 "win_over" = true) (k13 : PySem.W.keepIn K (.ref f13) = true) (a14 : PySem.W.nsIn K mainGlobals "game_share" = some (some (.ref f14))) (l14 : K.lookup f14 = some ⟨oc14, od14, .func (PySem.W.fnOf "game_share" "game_share" (defArgs s_game_share) (defBody s_game_share) (defScope s_game_share) .none kV14 dc14 pm14 an14 cd14 ct14), sl14⟩) (e14 : PySem.W.codeIn K cd14 "game_share" = true) (k14 : PySem.W.keepIn K (.ref f14) = true) (a15 : PySem.W.nsIn K mainGlobals "_law_cell_at" = some (some (.ref f15))) (l15 : K.lookup f15 = some ⟨oc15, od15, .func (PySem.W.fnOf "_law_cell_at" "_law_cell_at" (defArgs s_l_cell_at) (defBody s_l_cell_at) (defScope s_l_cell_at) .none kV15 dc15 pm15 an15 cd15 ct15), sl15⟩) (e15 : PySem.W.codeIn K cd15 "_law_cell_at" = true) (k15 : PySem.W.keepIn K (.ref f15) = true) (a16 : PySem.W.nsIn K mainGlobals "_law_names" = some (some (.ref f16))) (l16 : K.lookup f16 = some ⟨oc16, od16, .func (PySem.W.fnOf "_law_names" "_law_names" (defArgs s_l_names) (defBody s_l_names) (defScope s_l_names) .none kV16 dc16 pm16 an16 cd16 ct16), sl16⟩) (e16 : PySem.W.codeIn K cd16 "_law_names" = true) (k16 : PySem.W.keepIn K (.ref f16) = true) (a17 : PySem.W.nsIn K mainGlobals "_law_tree" = some (some (.ref f17))) (l17 : K.lookup f17 = some ⟨oc17, od17, .func (PySem.W.fnOf "_law_tree" "_law_tree" (defArgs s_l_tree) (defBody s_l_tree) (defScope s_l_tree) .none kV17 dc17 pm17 an17 cd17 ct17), sl17⟩) (e17 : PySem.W.codeIn K cd17 "_law_tree" = true) (k17 : PySem.W.keepIn K (.ref f17) = true) (a18 : PySem.W.nsIn K mainGlobals "_law_odd" = some (some (.ref f18))) (l18 : K.lookup f18 = some ⟨oc18, od18, .func (PySem.W.fnOf "_law_odd" "_law_odd" (defArgs s_l_odd) (defBody s_l_odd) (defScope s_l_odd) .none kV18 dc18 pm18 an18 cd18 ct18), sl18⟩) (e18 : PySem.W.codeIn K cd18 "_law_odd" = true) (k18 : PySem.W.keepIn K (.ref f18) = true) (a19 : PySem.W.nsIn K mainGlobals "_law_put" = some (some (.ref f19))) (l19 : K.lookup f19 = some ⟨oc19, od19, .func (PySem.W.fnOf "_law_put" "_law_put" (defArgs s_l_put) (defBody s_l_put) (defScope s_l_put) .none kV19 dc19 pm19 an19 cd19 ct19), sl19⟩) (e19 : PySem.W.codeIn K cd19 "_law_put" = true) (k19 : PySem.W.keepIn K (.ref f19) = true) (a20 : PySem.W.nsIn K mainGlobals "_law_spoiled" = some (some (.ref f20))) (l20 : K.lookup f20 = some ⟨oc20, od20, .func (PySem.W.fnOf "_law_spoiled" "_law_spoiled" (defArgs s_l_spoiled) (defBody s_l_spoiled) (defScope s_l_spoiled) .none kV20 dc20 pm20 an20 cd20 ct20), sl20⟩) (e20 : PySem.W.codeIn K cd20 "_law_spoiled" = true) (k20 : PySem.W.keepIn K (.ref f20) = true) (a21 : PySem.W.nsIn K mainGlobals "_law_refused" = some (some (.ref f21))) (l21 : K.lookup f21 = some ⟨oc21, od21, .func (PySem.W.fnOf "_law_refused" "_law_refused" (defArgs s_l_refused) (defBody s_l_refused) (defScope s_l_refused) .none kV21 dc21 pm21 an21 cd21 ct21), sl21⟩) (e21 : PySem.W.codeIn K cd21 "_law_refused" = true) (k21 : PySem.W.keepIn K (.ref f21) = true) (a22 : PySem.W.nsIn K mainGlobals "law" = some (some (.ref f22))) (l22 : K.lookup f22 = some ⟨oc22, od22, .func (PySem.W.fnOf "law" "law" (defArgs s_law) (defBody s_law) (defScope s_law) .none kV22 dc22 pm22 an22 cd22 ct22), sl22⟩) (e22 : PySem.W.codeIn K cd22 "law" = true) (k22 : PySem.W.keepIn K (.ref f22) = true) (z_ValueError : PySem.W.nsIn K mainGlobals "ValueError" = some none) (z_abs : PySem.W.nsIn K mainGlobals "abs" = some none) (z_all : PySem.W.nsIn K mainGlobals "all" = some none) (z_bool : PySem.W.nsIn K mainGlobals "bool" = some none) (z_dict : PySem.W.nsIn K mainGlobals "dict" = some none) (z_int : PySem.W.nsIn K mainGlobals "int" = some none) (z_isinstance : PySem.W.nsIn K mainGlobals "isinstance" = some none) (z_len : PySem.W.nsIn K mainGlobals "len" = some none) (z_range : PySem.W.nsIn K mainGlobals "range" = some none) (z_sorted : PySem.W.nsIn K mainGlobals "sorted" = some none) (z_str : PySem.W.nsIn K mainGlobals "str" = some none) (z_tuple : PySem.W.nsIn K mainGlobals "tuple" = some none) (y_LadderError : PySem.W.nsIn K mainGlobals "LadderError" = some (some (.ref c_LadderError))) (y_NoBook : PySem.W.nsIn K mainGlobals "NoBook" = some (some (.ref c_NoBook))) (y_NoFit : PySem.W.nsIn K mainGlobals "NoFit" = some (some (.ref c_NoFit))) (y_NoGame : PySem.W.nsIn K mainGlobals "NoGame" = some (some (.ref c_NoGame))) (y_NoNumber : PySem.W.nsIn K mainGlobals "NoNumber" = some (some (.ref c_NoNumber))) (y_NoPlayer : PySem.W.nsIn K mainGlobals "NoPlayer" = some (some (.ref c_NoPlayer))) (y_NoRow : PySem.W.nsIn K mainGlobals "NoRow" = some (some (.ref c_NoRow))) (y_NoStretch : PySem.W.nsIn K mainGlobals "NoStretch" = some (some (.ref c_NoStretch))) (y_NoTable : PySem.W.nsIn K mainGlobals "NoTable" = some (some (.ref c_NoTable))) (y_NoTree : PySem.W.nsIn K mainGlobals "NoTree" = some (some (.ref c_NoTree))) (y_NoWorth : PySem.W.nsIn K mainGlobals "NoWorth" = some (some (.ref c_NoWorth))) (q_LadderError_nw : PySem.W.excIn K c_LadderError vB "ValueError.__new__" = true) (q_LadderError_ga : PySem.W.findIn K (.ref c_LadderError) "__getattribute__" = some (some (.builtin "BaseException.__getattribute__"))) (q_LadderError_gn : PySem.W.findIn K (.ref c_LadderError) "__getattr__" = some none) (q_LadderError_cl : PySem.W.findIn K (.ref c_LadderError) "__class__" = some (some (.builtin "object.__class__"))) (q_LadderError_mo : PySem.W.mroIn K c_LadderError (.type "object") = some true) (q_LadderError_mb : PySem.W.mroIn K c_LadderError (.type "BaseException") = some true) (q_NoTree_nw : PySem.W.excIn K c_NoTree vB "ValueError.__new__" = true) (q_NoTree_ga : PySem.W.findIn K (.ref c_NoTree) "__getattribute__" = some (some (.builtin "BaseException.__getattribute__"))) (q_NoTree_gn : PySem.W.findIn K (.ref c_NoTree) "__getattr__" = some none) (q_NoTree_cl : PySem.W.findIn K (.ref c_NoTree) "__class__" = some (some (.builtin "object.__class__"))) (q_NoTree_mo : PySem.W.mroIn K c_NoTree (.type "object") = some true) (q_NoTree_mb : PySem.W.mroIn K c_NoTree (.type "BaseException") = some true) (kv_NoTree : PySem.W.kitOne K (.ref c_NoTree) (.type "ValueError") = some true) (kk_NoTree_LadderError : PySem.W.kitOne K (.ref c_NoTree) (.ref c_LadderError) = some true) (kk_NoTree_NoBook : PySem.W.kitOne K (.ref c_NoTree) (.ref c_NoBook) = some false) (kk_NoTree_NoFit : PySem.W.kitOne K (.ref c_NoTree) (.ref c_NoFit) = some false) (kk_NoTree_NoGame : PySem.W.kitOne K (.ref c_NoTree) (.ref c_NoGame) = some false) (kk_NoTree_NoNumber : PySem.W.kitOne K (.ref c_NoTree) (.ref c_NoNumber) = some false) (kk_NoTree_NoPlayer : PySem.W.kitOne K (.ref c_NoTree) (.ref c_NoPlayer) = some false) (kk_NoTree_NoRow : PySem.W.kitOne K (.ref c_NoTree) (.ref c_NoRow) = some false) (kk_NoTree_NoStretch : PySem.W.kitOne K (.ref c_NoTree) (.ref c_NoStretch) = some false) (kk_NoTree_NoTable : PySem.W.kitOne K (.ref c_NoTree) (.ref c_NoTable) = some false) (kk_NoTree_NoTree : PySem.W.kitOne K (.ref c_NoTree) (.ref c_NoTree) = some true) (kk_NoTree_NoWorth : PySem.W.kitOne K (.ref c_NoTree) (.ref c_NoWorth) = some false) (km_NoTree_LadderError : PySem.W.mroIn K c_NoTree (.ref c_LadderError) = some true) (u_LETTERS : PySem.W.nsIn K mainGlobals "LETTERS" = some (some (.str "abcdefghijklmnopqrstuvwxyz" t_LETTERS))) (u_LONGEST_NAME : PySem.W.nsIn K mainGlobals "LONGEST_NAME" = some (some (.int (8) t_LONGEST_NAME))) (u_MOST_NAMES : PySem.W.nsIn K mainGlobals "MOST_NAMES" = some (some (.int (8) t_MOST_NAMES))) :
    ∃ fd : FuncData, (∀ (s : Shared) (v : Value), BindsTo s fd ⟨[v], []⟩ [("_law_script", v)]) ∧ ∀ base : Heap, K.In base → base.Ns mainGlobals mg → FnOk l.prog w K mg base (CXE l.prog w) 20 fa fd ["_law_script"] (sp_lawA K) := by
  have F0 := fun_mk (st := s_is_whole) l0 e0 k0
  have d0 : Dfn K mg "is_whole" s_is_whole ["thing"] := ⟨⟨_, _, F0, PySem.W.mg_of X G a0, F0.binds fun _ _ _ _ _ _ us hl => by obtain ⟨_, rfl⟩ := lenE1 us hl; rfl⟩⟩
  have F1 := fun_mk (st := s_fraction) l1 e1 k1
  have d1 : Dfn K mg "fraction" s_fraction ["top", "bottom"] := ⟨⟨_, _, F1, PySem.W.mg_of X G a1, F1.binds fun _ _ _ _ _ _ us hl => by obtain ⟨_, _, rfl⟩ := lenE2 us hl; rfl⟩⟩
  have F2 := fun_mk (st := s_greatest_divisor) l2 e2 k2
  have d2 : Dfn K mg "greatest_divisor" s_greatest_divisor ["one", "other"] := ⟨⟨_, _, F2, PySem.W.mg_of X G a2, F2.binds fun _ _ _ _ _ _ us hl => by obtain ⟨_, _, rfl⟩ := lenE2 us hl; rfl⟩⟩
  have F3 := fun_mk (st := s_plus) l3 e3 k3
  have d3 : Dfn K mg "plus" s_plus ["one", "other"] := ⟨⟨_, _, F3, PySem.W.mg_of X G a3, F3.binds fun _ _ _ _ _ _ us hl => by obtain ⟨_, _, rfl⟩ := lenE2 us hl; rfl⟩⟩
  have F4 := fun_mk (st := s_times) l4 e4 k4
  have d4 : Dfn K mg "times" s_times ["one", "other"] := ⟨⟨_, _, F4, PySem.W.mg_of X G a4, F4.binds fun _ _ _ _ _ _ us hl => by obtain ⟨_, _, rfl⟩ := lenE2 us hl; rfl⟩⟩
  have F5 := fun_mk (st := s_is_name) l5 e5 k5
  have d5 : Dfn K mg "is_name" s_is_name ["thing"] := ⟨⟨_, _, F5, PySem.W.mg_of X G a5, F5.binds fun _ _ _ _ _ _ us hl => by obtain ⟨_, rfl⟩ := lenE1 us hl; rfl⟩⟩
  have F6 := fun_mk (st := s_share) l6 e6 k6
  have d6 : Dfn K mg "share" s_share ["worth", "other", "side", "edge"] := ⟨⟨_, _, F6, PySem.W.mg_of X G a6, F6.binds fun _ _ _ _ _ _ us hl => by obtain ⟨_, _, _, _, rfl⟩ := lenE4 us hl; rfl⟩⟩
  have F7 := fun_mk (st := s_odds) l7 e7 k7
  have d7 : Dfn K mg "odds" s_odds ["worth", "other", "side", "edge"] := ⟨⟨_, _, F7, PySem.W.mg_of X G a7, F7.binds fun _ _ _ _ _ _ us hl => by obtain ⟨_, _, _, _, rfl⟩ := lenE4 us hl; rfl⟩⟩
  have F8 := fun_mk (st := s_leaves) l8 e8 k8
  have d8 : Dfn K mg "leaves" s_leaves ["tree"] := ⟨⟨_, _, F8, PySem.W.mg_of X G a8, F8.binds fun _ _ _ _ _ _ us hl => by obtain ⟨_, rfl⟩ := lenE1 us hl; rfl⟩⟩
  have F9 := fun_mk (st := s_tree_shares) l9 e9 k9
  have d9 : Dfn K mg "tree_shares" s_tree_shares ["tree", "worths"] := ⟨⟨_, _, F9, PySem.W.mg_of X G a9, F9.binds fun _ _ _ _ _ _ us hl => by obtain ⟨_, _, rfl⟩ := lenE2 us hl; rfl⟩⟩
  have F10 := fun_mk (st := s_check_worths) l10 e10 k10
  have d10 : Dfn K mg "check_worths" s_check_worths ["names", "worths"] := ⟨⟨_, _, F10, PySem.W.mg_of X G a10, F10.binds fun _ _ _ _ _ _ us hl => by obtain ⟨_, _, rfl⟩ := lenE2 us hl; rfl⟩⟩
  have F11 := fun_mk (st := s_shares_of) l11 e11 k11
  have d11 : Dfn K mg "shares_of" s_shares_of ["tree", "worths"] := ⟨⟨_, _, F11, PySem.W.mg_of X G a11, F11.binds fun _ _ _ _ _ _ us hl => by obtain ⟨_, _, rfl⟩ := lenE2 us hl; rfl⟩⟩
  have F12 := fun_mk (st := s_passed) l12 e12 k12
  have d12 : Dfn K mg "passed" s_passed ["own", "others", "worths"] := ⟨⟨_, _, F12, PySem.W.mg_of X G a12, F12.binds fun _ _ _ _ _ _ us hl => by obtain ⟨_, _, _, rfl⟩ := lenE3 us hl; rfl⟩⟩
  have F13 := fun_mk (st := s_win_over) l13 e13 k13
  have d13 : Dfn K mg "win_over" s_win_over ["name", "others", "worths"] := ⟨⟨_, _, F13, PySem.W.mg_of X G a13, F13.binds fun _ _ _ _ _ _ us hl => by obtain ⟨_, _, _, rfl⟩ := lenE3 us hl; rfl⟩⟩
  have F14 := fun_mk (st := s_game_share) l14 e14 k14
  have d14 : Dfn K mg "game_share" s_game_share ["one", "other", "worths"] := ⟨⟨_, _, F14, PySem.W.mg_of X G a14, F14.binds fun _ _ _ _ _ _ us hl => by obtain ⟨_, _, _, rfl⟩ := lenE3 us hl; rfl⟩⟩
  have F15 := fun_mk (st := s_l_cell_at) l15 e15 k15
  have d15 : Dfn K mg "_law_cell_at" s_l_cell_at ["_law_script", "_law_k"] := ⟨⟨_, _, F15, PySem.W.mg_of X G a15, F15.binds fun _ _ _ _ _ _ us hl => by obtain ⟨_, _, rfl⟩ := lenE2 us hl; rfl⟩⟩
  have F16 := fun_mk (st := s_l_names) l16 e16 k16
  have d16 : Dfn K mg "_law_names" s_l_names ["_law_cell", "_law_many"] := ⟨⟨_, _, F16, PySem.W.mg_of X G a16, F16.binds fun _ _ _ _ _ _ us hl => by obtain ⟨_, _, rfl⟩ := lenE2 us hl; rfl⟩⟩
  have F17 := fun_mk (st := s_l_tree) l17 e17 k17
  have d17 : Dfn K mg "_law_tree" s_l_tree ["_law_script", "_law_names_here", "_law_at"] := ⟨⟨_, _, F17, PySem.W.mg_of X G a17, F17.binds fun _ _ _ _ _ _ us hl => by obtain ⟨_, _, _, rfl⟩ := lenE3 us hl; rfl⟩⟩
  have F18 := fun_mk (st := s_l_odd) l18 e18 k18
  have d18 : Dfn K mg "_law_odd" s_l_odd ["_law_kind", "_law_cell", "_law_one"] := ⟨⟨_, _, F18, PySem.W.mg_of X G a18, F18.binds fun _ _ _ _ _ _ us hl => by obtain ⟨_, _, _, rfl⟩ := lenE3 us hl; rfl⟩⟩
  have F19 := fun_mk (st := s_l_put) l19 e19 k19
  have d19 : Dfn K mg "_law_put" s_l_put ["_law_tree_here", "_law_goal", "_law_odd_here"] := ⟨⟨_, _, F19, PySem.W.mg_of X G a19, F19.binds fun _ _ _ _ _ _ us hl => by obtain ⟨_, _, _, rfl⟩ := lenE3 us hl; rfl⟩⟩
  have F20 := fun_mk (st := s_l_spoiled) l20 e20 k20
  have d20 : Dfn K mg "_law_spoiled" s_l_spoiled ["_law_script", "_law_tree_here", "_law_names_here", "_law_cell"] := ⟨⟨_, _, F20, PySem.W.mg_of X G a20, F20.binds fun _ _ _ _ _ _ us hl => by obtain ⟨_, _, _, _, rfl⟩ := lenE4 us hl; rfl⟩⟩
  have F21 := fun_mk (st := s_l_refused) l21 e21 k21
  have d21 : Dfn K mg "_law_refused" s_l_refused ["_law_thing", "_law_worths", "_law_told"] := ⟨⟨_, _, F21, PySem.W.mg_of X G a21, F21.binds fun _ _ _ _ _ _ us hl => by obtain ⟨_, _, _, rfl⟩ := lenE3 us hl; rfl⟩⟩
  have F22 := fun_mk (st := s_law) l22 e22 k22
  have d22 : Dfn K mg "law" s_law ["_law_script"] := ⟨⟨_, _, F22, PySem.W.mg_of X G a22, F22.binds fun _ _ _ _ _ _ us hl => by obtain ⟨_, rfl⟩ := lenE1 us hl; rfl⟩⟩
  have e := hfa.symm.trans (PySem.W.mg_of X G a22)
  cases e
  exact ⟨PySem.W.fnOf "law" "law" (defArgs s_law) (defBody s_law) (defScope s_law) .none kV22 dc22 pm22 an22 cd22 ct22, fun s v => .of_eq rfl, fun base _ _ => law_fn F22 (PySem.W.mg_of X G a22) fun ns => ok_all (ns := ns) d0 d1 d2 d3 d4 d5 d6 d7 d8 d9 d10 d11 d12 d13 d14 d15 d16 d17 d18 d19 d20 d21 d22 ⟨PySem.W.mg_of X G y_LadderError, PySem.W.mg_of X G y_NoBook, PySem.W.mg_of X G y_NoFit, PySem.W.mg_of X G y_NoGame, PySem.W.mg_of X G y_NoNumber, PySem.W.mg_of X G y_NoPlayer, PySem.W.mg_of X G y_NoRow, PySem.W.mg_of X G y_NoStretch, PySem.W.mg_of X G y_NoTable, PySem.W.mg_of X G y_NoTree, PySem.W.mg_of X G y_NoWorth, y_NoTree, ⟨q_LadderError_nw, q_LadderError_ga, q_LadderError_gn, q_LadderError_cl, q_LadderError_mo, q_LadderError_mb⟩, ⟨q_NoTree_nw, q_NoTree_ga, q_NoTree_gn, q_NoTree_cl, q_NoTree_mo, q_NoTree_mb⟩, kv_NoTree, kk_NoTree_LadderError, kk_NoTree_NoBook, kk_NoTree_NoFit, kk_NoTree_NoGame, kk_NoTree_NoNumber, kk_NoTree_NoPlayer, kk_NoTree_NoRow, kk_NoTree_NoStretch, kk_NoTree_NoTable, kk_NoTree_NoTree, kk_NoTree_NoWorth, km_NoTree_LadderError⟩ (PySem.W.mg_none_of X G z_ValueError) (PySem.W.mg_none_of X G z_abs) (PySem.W.mg_none_of X G z_all) (PySem.W.mg_none_of X G z_bool) (PySem.W.mg_none_of X G z_dict) (PySem.W.mg_none_of X G z_int) (PySem.W.mg_none_of X G z_isinstance) (PySem.W.mg_none_of X G z_len) (PySem.W.mg_none_of X G z_range) (PySem.W.mg_none_of X G z_sorted) (PySem.W.mg_none_of X G z_str) (PySem.W.mg_none_of X G z_tuple) ⟨_, PySem.W.mg_of X G u_LETTERS, ⟨_, rfl⟩⟩ ⟨_, PySem.W.mg_of X G u_LONGEST_NAME, ⟨_, rfl⟩⟩ ⟨_, PySem.W.mg_of X G u_MOST_NAMES, ⟨_, rfl⟩⟩⟩
theorem walk {l : PySem.W.OpenLaw} {q : Program} {loose : List Str} {XP : (Str → Option Value) → Heap → Prop} {YP : World → Heap → Prop} {d : DefRec} {K : Params → PySem.W.Frag} (hn : l.most = some 63) (hdf : d.params.defaults = [])
    (hY : ∀ (w : World) (h : Heap), YP w h → (K w.params).In h)
    (F : ∀ (w : World) (mg : Str → Option Value) (fa : Addr) (h : Heap), (K w.params).In h → h.Ns mainGlobals mg → mg d.name = some (.ref fa) →
      ∃ fd : FuncData, (∀ (s : Shared) (u : Value), BindsTo s fd ⟨[u], []⟩ [("_law_script", u)]) ∧ ∀ base : Heap, (K w.params).In base → base.Ns mainGlobals mg → FnOk l.prog w (K w.params) mg base (CXE l.prog w) 20 fa fd ["_law_script"] (sp_lawA (K w.params))) :
    PySem.W.WalkO q loose XP YP l.row.toRowW d [] (fun f vs => PySem.call f vs) :=
  L2.walk_of (n := 63) (k := 20) (x := "_law_script") (CX := fun w => CXE l.prog w) (sp := fun w => sp_lawA (K w.params)) hn (by decide) hdf ⟨rfl, by decide, by decide⟩ hY F (fun _ _ a ns hl _ hS => ⟨ns, a, rfl, hS, hl, fun _ => rfl⟩) fun _ _ _ _ _ z => cxe0 z
end My
noncomputable def PySem.W.Fast.tw16109217240459262654 : PySem.Params → PySem.W.Frag := My.KF
noncomputable def PySem.W.Fast.tw13477465836766734498 : PySem.Program := PySem.Challenge.pw_ladderworth_k62_no_tree
theorem PySem.W.Fast.te13477465836766734498 : PySem.Challenge.pw_ladderworth_k62_no_tree = PySem.W.Fast.tw13477465836766734498 := rfl
open PySem PySem.W PyProof.Rows
set_option maxRecDepth 100000 in
set_option maxHeartbeats 0 in
theorem PySem.Challenge.cw_ladderworth_k62_no_tree_holds : PySem.Challenge.rw_ladderworth_k62_no_tree.Holds := by
  w_on; o_law; o_head (PySem.W.kHook My.KF My.KA (fun _ => by kernel_rfl)); (case hw => w_witness2)
  k_fill
  refine My.walk (l := PySem.Challenge.rw_ladderworth_k62_no_tree) rfl rfl (fun w h Y => PySem.W.kIn_of Y) ?F
  case F =>
    intro w mg fa h KX G hmg
    refine' My.all_mk KX G hmg ?a0 ?l0 ?e0 ?k0 ?a1 ?l1 ?e1 ?k1 ?a2 ?l2 ?e2 ?k2 ?a3 ?l3 ?e3 ?k3 ?a4 ?l4 ?e4 ?k4 ?a5 ?l5 ?e5 ?k5 ?a6 ?l6 ?e6 ?k6 ?a7 ?l7 ?e7 ?k7 ?a8 ?l8 ?e8 ?k8 ?a9 ?l9 ?e9 ?k9 ?a10 ?l10 ?e10 ?k10 ?a11 ?l11 ?e11 ?k11 ?a12 ?l12 ?e12 ?k12 ?a13 ?l13 ?e13 ?k13 ?a14 ?l14 ?e14 ?k14 ?a15 ?l15 ?e15 ?k15 ?a16 ?l16 ?e16 ?k16 ?a17 ?l17 ?e17 ?k17 ?a18 ?l18 ?e18 ?k18 ?a19 ?l19 ?e19 ?k19 ?a20 ?l20 ?e20 ?k20 ?a21 ?l21 ?e21 ?k21 ?a22 ?l22 ?e22 ?k22 ?z_ValueError ?z_abs ?z_all ?z_bool ?z_dict ?z_int ?z_isinstance ?z_len ?z_range ?z_sorted ?z_str ?z_tuple ?y_LadderError ?y_NoBook ?y_NoFit ?y_NoGame ?y_NoNumber ?y_NoPlayer ?y_NoRow ?y_NoStretch ?y_NoTable ?y_NoTree ?y_NoWorth ?q_LadderError_nw ?q_LadderError_ga ?q_LadderError_gn ?q_LadderError_cl ?q_LadderError_mo ?q_LadderError_mb ?q_NoTree_nw ?q_NoTree_ga ?q_NoTree_gn ?q_NoTree_cl ?q_NoTree_mo ?q_NoTree_mb ?kv_NoTree ?kk_NoTree_LadderError ?kk_NoTree_NoBook ?kk_NoTree_NoFit ?kk_NoTree_NoGame ?kk_NoTree_NoNumber ?kk_NoTree_NoPlayer ?kk_NoTree_NoRow ?kk_NoTree_NoStretch ?kk_NoTree_NoTable ?kk_NoTree_NoTree ?kk_NoTree_NoWorth ?km_NoTree_LadderError ?u_LETTERS ?u_LONGEST_NAME ?u_MOST_NAMES
    (case a0 => k_is)
    (case l0 => k_is)
    (case e0 => k_is)
    (case k0 => k_is)
    (case a1 => k_is)
    (case l1 => k_is)
    (case e1 => k_is)
    (case k1 => k_is)
    (case a2 => k_is)
    (case l2 => k_is)
    (case e2 => k_is)
    (case k2 => k_is)
    (case a3 => k_is)
    (case l3 => k_is)
    (case e3 => k_is)
    (case k3 => k_is)
    (case a4 => k_is)
    (case l4 => k_is)
    (case e4 => k_is)
    (case k4 => k_is)
    (case a5 => k_is)
    (case l5 => k_is)
    (case e5 => k_is)
    (case k5 => k_is)
    (case a6 => k_is)
    (case l6 => k_is)
    (case e6 => k_is)
    (case k6 => k_is)
    (case a7 => k_is)
    (case l7 => k_is)
    (case e7 => k_is)
    (case k7 => k_is)
    (case a8 => k_is)
    (case l8 => k_is)
    (case e8 => k_is)
    (case k8 => k_is)
    (case a9 => k_is)
    (case l9 => k_is)
    (case e9 => k_is)
    (case k9 => k_is)
    (case a10 => k_is)
    (case l10 => k_is)
    (case e10 => k_is)
    (case k10 => k_is)
    (case a11 => k_is)
    (case l11 => k_is)
    (case e11 => k_is)
    (case k11 => k_is)
    (case a12 => k_is)
    (case l12 => k_is)
    (case e12 => k_is)
    (case k12 => k_is)
    (case a13 => k_is)
    (case l13 => k_is)
    (case e13 => k_is)
    (case k13 => k_is)
    (case a14 => k_is)
    (case l14 => k_is)
    (case e14 => k_is)
    (case k14 => k_is)
    (case a15 => k_is)
    (case l15 => k_is)
    (case e15 => k_is)
    (case k15 => k_is)
    (case a16 => k_is)
    (case l16 => k_is)
    (case e16 => k_is)
    (case k16 => k_is)
    (case a17 => k_is)
    (case l17 => k_is)
    (case e17 => k_is)
    (case k17 => k_is)
    (case a18 => k_is)
    (case l18 => k_is)
    (case e18 => k_is)
    (case k18 => k_is)
    (case a19 => k_is)
    (case l19 => k_is)
    (case e19 => k_is)
    (case k19 => k_is)
    (case a20 => k_is)
    (case l20 => k_is)
    (case e20 => k_is)
    (case k20 => k_is)
    (case a21 => k_is)
    (case l21 => k_is)
    (case e21 => k_is)
    (case k21 => k_is)
    (case a22 => k_is)
    (case l22 => k_is)
    (case e22 => k_is)
    (case k22 => k_is)
    (case z_ValueError => k_is)
    (case z_abs => k_is)
    (case z_all => k_is)
    (case z_bool => k_is)
    (case z_dict => k_is)
    (case z_int => k_is)
    (case z_isinstance => k_is)
    (case z_len => k_is)
    (case z_range => k_is)
    (case z_sorted => k_is)
    (case z_str => k_is)
    (case z_tuple => k_is)
    (case y_LadderError => first | k_is | k_exc | kernel_rfl)
    (case y_NoBook => first | k_is | k_exc | kernel_rfl)
    (case y_NoFit => first | k_is | k_exc | kernel_rfl)
    (case y_NoGame => first | k_is | k_exc | kernel_rfl)
    (case y_NoNumber => first | k_is | k_exc | kernel_rfl)
    (case y_NoPlayer => first | k_is | k_exc | kernel_rfl)
    (case y_NoRow => first | k_is | k_exc | kernel_rfl)
    (case y_NoStretch => first | k_is | k_exc | kernel_rfl)
    (case y_NoTable => first | k_is | k_exc | kernel_rfl)
    (case y_NoTree => first | k_is | k_exc | kernel_rfl)
    (case y_NoWorth => first | k_is | k_exc | kernel_rfl)
    (case q_LadderError_nw => first | k_is | k_exc | kernel_rfl)
    (case q_LadderError_ga => first | k_is | k_exc | kernel_rfl)
    (case q_LadderError_gn => first | k_is | k_exc | kernel_rfl)
    (case q_LadderError_cl => first | k_is | k_exc | kernel_rfl)
    (case q_LadderError_mo => first | k_is | k_exc | kernel_rfl)
    (case q_LadderError_mb => first | k_is | k_exc | kernel_rfl)
    (case q_NoTree_nw => first | k_is | k_exc | kernel_rfl)
    (case q_NoTree_ga => first | k_is | k_exc | kernel_rfl)
    (case q_NoTree_gn => first | k_is | k_exc | kernel_rfl)
    (case q_NoTree_cl => first | k_is | k_exc | kernel_rfl)
    (case q_NoTree_mo => first | k_is | k_exc | kernel_rfl)
    (case q_NoTree_mb => first | k_is | k_exc | kernel_rfl)
    (case kv_NoTree => first | k_is | k_exc | kernel_rfl)
    (case kk_NoTree_LadderError => first | k_is | k_exc | kernel_rfl)
    (case kk_NoTree_NoBook => first | k_is | k_exc | kernel_rfl)
    (case kk_NoTree_NoFit => first | k_is | k_exc | kernel_rfl)
    (case kk_NoTree_NoGame => first | k_is | k_exc | kernel_rfl)
    (case kk_NoTree_NoNumber => first | k_is | k_exc | kernel_rfl)
    (case kk_NoTree_NoPlayer => first | k_is | k_exc | kernel_rfl)
    (case kk_NoTree_NoRow => first | k_is | k_exc | kernel_rfl)
    (case kk_NoTree_NoStretch => first | k_is | k_exc | kernel_rfl)
    (case kk_NoTree_NoTable => first | k_is | k_exc | kernel_rfl)
    (case kk_NoTree_NoTree => first | k_is | k_exc | kernel_rfl)
    (case kk_NoTree_NoWorth => first | k_is | k_exc | kernel_rfl)
    (case km_NoTree_LadderError => first | k_is | k_exc | kernel_rfl)
    (case u_LETTERS => first | k_is | k_exc | kernel_rfl)
    (case u_LONGEST_NAME => first | k_is | k_exc | kernel_rfl)
    (case u_MOST_NAMES => first | k_is | k_exc | kernel_rfl)
#print axioms PySem.Challenge.cw_ladderworth_k62_no_tree_holds
