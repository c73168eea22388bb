import PyProof.Rows.All
import Wide.All
import OpenK.AllK
import Wide.FinOn
import Lean
import PyProof.EqAt
import PyProof.EqKinds
import PyProof.TupleCall
import PyProof.Cells
import PyProof.AutoSeq1
import PySem.Challenge.RW_ladderworth_k82_no_trees
set_option Elab.async false
set_option linter.all false
set_option maxRecDepth 100000
namespace L2
open PySem PySem.Spec PyProof.Rows
abbrev Key := Sum Int Str
def keyIs : Key → Value → Bool
  | .inl k, v => Value.isInt k v
  | .inr x, v => Value.isStrOf x v
def keyH (w : World) : Key → Int
  | .inl k => hashInt k
  | .inr x => hashStr w x
theorem keyIs_shape : ∀ {k : Key} {v : Value}, keyIs k v = true → (∃ i t, k = Sum.inl i ∧ v = Value.int i t) ∨ (∃ x t, k = Sum.inr x ∧ v = Value.str x t)
  | .inl i, v, h => by
    obtain ⟨t, e⟩ := Value.isInt_shape (k := i) (v := v) h
    exact .inl ⟨i, t, rfl, e⟩
  | .inr x, v, h => by
    obtain ⟨t, e⟩ := Value.isStrOf_shape (x := x) (v := v) h
    exact .inr ⟨x, t, rfl, e⟩
theorem key_ll (a b : Int) : decide ((Sum.inl a : Key) = Sum.inl b) = (a == b) := by
  by_cases e : a = b
  · subst e; simp
  · have h : ¬ (Sum.inl a : Key) = Sum.inl b := fun q => e (Sum.inl.inj q)
    rw [decide_eq_false h]
    exact (beq_eq_false_iff_ne.mpr e).symm
theorem key_rr (a b : Str) : decide ((Sum.inr a : Key) = Sum.inr b) = decide (a = b) := by
  by_cases e : a = b
  · subst e; simp
  · have h : ¬ (Sum.inr a : Key) = Sum.inr b := fun q => e (Sum.inr.inj q)
    rw [decide_eq_false h, decide_eq_false e]
theorem key_lr (a : Int) (b : Str) : decide ((Sum.inl a : Key) = Sum.inr b) = false := decide_eq_false (fun q => nomatch q)
theorem key_rl (a : Str) (b : Int) : decide ((Sum.inr a : Key) = Sum.inl b) = false := decide_eq_false (fun q => nomatch q)
def mixKind (prog : Program) (w : World) : PySem.KeyKind prog w Key where
  is := keyIs
  hash := keyH w
  inj := fun v a b ha hb => by
    rcases keyIs_shape ha with ⟨i, t, rfl, rfl⟩ | ⟨x, t, rfl, rfl⟩
    · rcases keyIs_shape hb with ⟨j, u, rfl, e⟩ | ⟨y, u, rfl, e⟩
      · injection e with e1 _; rw [e1]
      · exact nomatch e
    · rcases keyIs_shape hb with ⟨j, u, rfl, e⟩ | ⟨y, u, rfl, e⟩
      · exact nomatch e
      · injection e with e1 _; rw [e1]
  byValue := fun k v h => by
    rcases keyIs_shape h with ⟨i, t, rfl, rfl⟩ | ⟨x, t, rfl, rfl⟩ <;> rfl
  pyHash := fun hv h => by
    rcases keyIs_shape hv with ⟨i, t, rfl, rfl⟩ | ⟨x, t, rfl, rfl⟩
    · exact wpAny_pyHash_int h
    · exact wpAny_pyHash_str h
  eqBool := fun hu hv h => by
    rcases keyIs_shape hu with ⟨i, t, rfl, rfl⟩ | ⟨x, t, rfl, rfl⟩
    · rcases keyIs_shape hv with ⟨j, u, rfl, rfl⟩ | ⟨y, u, rfl, rfl⟩
      · rw [key_ll] at h; exact wpAny_eqBool_int h
      · rw [key_lr] at h; exact SeqAt.EqAt.int_str i t y u _ _ _ _ h
    · rcases keyIs_shape hv with ⟨j, u, rfl, rfl⟩ | ⟨y, u, rfl, rfl⟩
      · rw [key_rl] at h; exact SeqAt.EqAt.str_int x t j u _ _ _ _ h
      · rw [key_rr] at h; exact wpAny_eqBool_str h
  «strs» := fun k x t v h => by
    rcases keyIs_shape h with ⟨i, u, rfl, e⟩ | ⟨y, u, rfl, e⟩
    · exact nomatch e
    · injection e with e1 _
      subst e1
      cases v <;> rfl
end L2
namespace L2
open PySem PySem.Spec PyProof.Rows
inductive V where
  | non | bl (b : Bool) | int (i : Int) | str (x : Str) | byt (b : Array UInt8) | flt (b : UInt64) | ref (a : Addr) | ty (n : String)
  deriving DecidableEq
def RelV : V → Value → Prop
  | .non, u => u = Value.none
  | .bl b, u => u = Value.bool b
  | .int i, u => ∃ t, u = Value.int i t
  | .str x, u => ∃ t, u = Value.str x t
  | .byt b, u => ∃ t, u = Value.bytes b t
  | .flt b, u => ∃ t, u = Value.float b t
  | .ref a, u => u = Value.ref a
  | .ty n, u => u = Value.type n
abbrev Vals : List V → List Value → Prop := Paired RelV
theorem Vals.length {xs : List V} {us : List Value} (r : Vals xs us) : xs.length = us.length := Paired.length r
theorem Vals.get : ∀ {xs : List V} {us : List Value} {i : Nat} {x : V}, Vals xs us → xs[i]? = some x → ∃ u, us[i]? = some u ∧ RelV x u
  | _, _, _, _, .nil, e => by simp at e
  | _, _, 0, _, .cons r _, e => by simp at e; subst e; exact ⟨_, rfl, r⟩
  | _, _, i + 1, x, .cons _ t, e => by
    obtain ⟨u, h1, h2⟩ := Vals.get (i := i) (x := x) t (by simpa using e)
    exact ⟨u, by simpa using h1, h2⟩
theorem Vals.append : ∀ {xs ys : List V} {us ws : List Value}, Vals xs us → Vals ys ws → Vals (xs ++ ys) (us ++ ws)
  | _, _, _, _, .nil, s => s
  | _, _, _, _, .cons r t, s => .cons r (Vals.append t s)
theorem Vals.take : ∀ {xs : List V} {us : List Value} (n : Nat), Vals xs us → Vals (xs.take n) (us.take n)
  | _, _, 0, _ => .nil
  | _, _, _ + 1, .nil => .nil
  | _, _, n + 1, .cons r t => .cons r (Vals.take n t)
theorem Vals.drop : ∀ {xs : List V} {us : List Value} (n : Nat), Vals xs us → Vals (xs.drop n) (us.drop n)
  | _, _, 0, r => r
  | _, _, _ + 1, .nil => .nil
  | _, _, n + 1, .cons _ t => Vals.drop n t
def RelO : Option V → Option Value → Prop
  | some v, some u => RelV v u
  | none, none => True
  | _, _ => False
def KV {κ : Type} : List (κ × V) → List (κ × Value) → Prop := Paired fun (p : κ × V) (q : κ × Value) => p.1 = q.1 ∧ RelV p.2 q.2
def kV : Key → V
  | .inl i => .int i
  | .inr x => .str x
inductive HO where
  | lst (xs : List V)
  | tup (xs : List V)
  | dK (kvs : List (Key × V)) | dT (kvs : List (List Key × V))
  | set (S : Int → Bool) (n : Nat)
  | ins (C dx : Addr) (fs : List (Str × V))
  | own (x : Addr)
  | xd (fs : List (Str × V))
  | met (f x : Addr)
  | rng (lo hi : Int)
  | frz (o : Obj) (u : HO)
  | tbl (ps : Array Value)
  | ext (φ : Heap → Prop)
abbrev Hp := Addr → Option HO
def upd (H : Hp) (a : Addr) (o : HO) : Hp := fun b => if b = a then some o else H b
theorem upd_same {H : Hp} {a : Addr} {o : HO} : upd H a o a = some o := by unfold upd; rw [if_pos rfl]
theorem upd_ne {H : Hp} {a b : Addr} {o : HO} (h : b ≠ a) : upd H a o b = H b := by unfold upd; rw [if_neg h]
theorem upd_upd {H : Hp} {a : Addr} {o u : HO} : upd (upd H a o) a u = upd H a u := by
  funext b; unfold upd; split <;> rfl
theorem ne_of_none {H : Hp} {a b : Addr} {o : HO} (h : H a = some o) (h' : H b = none) : a ≠ b := by
  intro e; subst e; rw [h] at h'; cases h'
section
variable (P : Program) (w : World)
def ObjOk (H : Hp) (h : Heap) (a : Addr) : HO → Prop
  | .lst xs => xs.length ≤ sizeLine ∧ ∃ (its : List Value) (n : Nat), Vals xs its ∧ h.get? a = some { cls := .type "list", data := .seq its.toArray n }
  | .tup xs => xs.length ≤ sizeLine ∧ ∃ its : List Value, Vals xs its ∧ IsTup h a its.toArray
  | .dK kvs => kvs.length ≤ sizeLine ∧ (a == sysModules) = false ∧ ∃ vs, KV kvs vs ∧ h.DictOf (mixKind P w) a vs
  | .dT kvs => kvs.length ≤ sizeLine ∧ (a == sysModules) = false ∧ ∃ xs : List (List Key × Addr × Value),
      Paired (fun (p : List Key × V) (q : List Key × Addr × Value) => p.1 = q.1 ∧ H q.2.1 = some (.tup (p.1.map kV)) ∧ RelV p.2 q.2.2) kvs xs ∧
      ∃ o es ep, h.get? a = some o ∧ o.ExactDict ∧ o.data = .dict es ep ∧ es.toList = xs.map (entryOfKey (tupleKind (mixKind P w))) ∧ (xs.map (·.1)).Nodup
  | .set S n => h.SetOf (intKind P w) a S n
  | .ins C dx fs => H dx = some (.own a) ∧ fs.length ≤ 1000 ∧ dx ≠ a ∧ h.get? a = some (PySem.W.instObj C dx) ∧
      ∃ mA, h.Ns1 dx mA ∧ (∀ f, RelO (fs.lookup f) (mA f)) ∧ PySem.Within mA (fs.map (·.1))
  | .own _ => ∃ o, h.get? a = some o
  | .xd fs => ∃ mA, h.Ns1 a mA ∧ ∀ f, RelO (fs.lookup f) (mA f)
  | .rng lo hi => ∃ t u v, h.get? a = some { cls := .type "range", data := .fields #[.int lo t, .int hi u, .int 1 v] }
  | .frz o u => h.get? a = some o ∧ ObjOk H h a u
  | .tbl ps => h.get? a = some { cls := .none, data := .fields ps }
  | .met f x => h.get? a = some (PySem.W.methodObj (.ref f) (.ref x))
  | .ext φ => φ h ∧ (∃ o, h.get? a = some o) ∧ ∀ h1 h2 : Heap, φ h1 → (∀ o, h1.get? a = some o → h2.get? a = some o) → φ h2
def HOk (H : Hp) (h : Heap) : Prop := ∀ a o, H a = some o → ObjOk P w H h a o
end
section
variable {P : Program} {w : World} {H H' : Hp} {h h' : Heap} {a : Addr} {o : HO}
theorem ObjOk.lt (x : ObjOk P w H h a o) : a < h.objs.size := by
  cases o with
  | lst xs => obtain ⟨_, _, _, _, e⟩ := x; exact Heap.lt_size e
  | tup xs => obtain ⟨_, _, _, p⟩ := x; exact p.lt
  | dK kvs => obtain ⟨_, _, _, _, o, _, _, e, _⟩ := x; exact Heap.lt_size e
  | dT kvs => obtain ⟨_, _, _, _, o, _, _, e, _⟩ := x; exact Heap.lt_size e
  | set S n => obtain ⟨o, _, _, _, e, _⟩ := x; exact Heap.lt_size e
  | ins C dx fs => obtain ⟨_, _, _, e, _⟩ := x; exact Heap.lt_size e
  | own y => obtain ⟨_, e⟩ := x; exact Heap.lt_size e
  | xd fs => obtain ⟨_, ⟨_, _, _, e, _⟩, _⟩ := x; exact Heap.lt_size e
  | rng lo hi => obtain ⟨_, _, _, e⟩ := x; exact Heap.lt_size e
  | frz ob u => obtain ⟨e, _⟩ := x; exact Heap.lt_size e
  | tbl ps => exact Heap.lt_size (show h.get? a = some _ from x)
  | met f y => exact Heap.lt_size (show h.get? a = some _ from x)
  | ext φ => obtain ⟨_, ⟨_, e⟩, _⟩ := x; exact Heap.lt_size e
theorem Paired.mapP {α β : Type} {F G : α → β → Prop} : ∀ {l₁ : List α} {l₂ : List β}, Paired F l₁ l₂ → (∀ a b, F a b → G a b) → Paired G l₁ l₂
  | _, _, .nil, _ => .nil
  | _, _, .cons r t, f => .cons (f _ _ r) (Paired.mapP t f)
theorem ObjOk.stay (x : ObjOk P w H h a o) (k : ∀ b u, (b = a ∨ H b = some (.own a)) → h.get? b = some u → h'.get? b = some u)
    (ho : ∀ b, H b = some (.own a) → H' b = some (.own a)) (ht : ∀ b xs, H b = some (.tup xs) → H' b = some (.tup xs)) : ObjOk P w H' h' a o := by
  induction o with
  | lst xs => obtain ⟨z, its, n, r, e⟩ := x; exact ⟨z, its, n, r, k _ _ (.inl rfl) e⟩
  | tup xs => obtain ⟨z, its, r, ob, e, c⟩ := x; exact ⟨z, its, r, ob, k _ _ (.inl rfl) e, c⟩
  | dK kvs => obtain ⟨z, y, vs, r, ob, es, ep, e, c⟩ := x; exact ⟨z, y, vs, r, ob, es, ep, k _ _ (.inl rfl) e, c⟩
  | dT kvs =>
    obtain ⟨z, y, xs, r, ob, es, ep, e, c⟩ := x
    exact ⟨z, y, xs, Paired.mapP r fun p q z => ⟨z.1, ht _ _ z.2.1, z.2.2⟩, ob, es, ep, k _ _ (.inl rfl) e, c⟩
  | set S n => obtain ⟨ob, es, ep, t, e, c⟩ := x; exact ⟨ob, es, ep, t, k _ _ (.inl rfl) e, c⟩
  | ins C dx fs =>
    obtain ⟨d, z, ne, e, mA, ⟨od, es, ep, e2, c⟩, r⟩ := x
    exact ⟨ho _ d, z, ne, k _ _ (.inl rfl) e, mA, ⟨od, es, ep, k _ _ (.inr d) e2, c⟩, r⟩
  | own y => obtain ⟨ob, e⟩ := x; exact ⟨ob, k _ _ (.inl rfl) e⟩
  | xd fs => obtain ⟨mA, ⟨od, es, ep, e, c⟩, r⟩ := x; exact ⟨mA, ⟨od, es, ep, k _ _ (.inl rfl) e, c⟩, r⟩
  | rng lo hi => obtain ⟨t, u, v, e⟩ := x; exact ⟨t, u, v, k _ _ (.inl rfl) e⟩
  | frz ob u ih => obtain ⟨e, q⟩ := x; exact ⟨k _ _ (.inl rfl) e, ih q⟩
  | tbl ps =>
    have e : h.get? a = some { cls := .none, data := .fields ps } := x
    show h'.get? a = some { cls := .none, data := .fields ps }
    exact k a _ (.inl rfl) e
  | met f y =>
    have e : h.get? a = some (PySem.W.methodObj (.ref f) (.ref y)) := x
    show h'.get? a = some (PySem.W.methodObj (.ref f) (.ref y))
    exact k a _ (.inl rfl) e
  | ext φ => obtain ⟨p, ⟨o, e⟩, st⟩ := x; exact ⟨st _ _ p fun o q => k _ _ (.inl rfl) q, ⟨o, k _ _ (.inl rfl) e⟩, st⟩
theorem HOk.lt (x : HOk P w H h) (e : H a = some o) : a < h.objs.size := (x a o e).lt
theorem HOk.fresh (x : HOk P w H h) (e : h.objs.size ≤ a) : H a = none := by
  cases q : H a with
  | none => rfl
  | some u => exact absurd (Nat.lt_of_lt_of_le (x.lt q) e) (Nat.lt_irrefl _)
theorem HOk.kept (x : HOk P w H h) (k : ∀ b u, h.get? b = some u → h'.get? b = some u) : HOk P w H h' := fun a o e =>
  (x a o e).stay (fun b u _ q => k b u q) (fun _ q => q) fun _ _ q => q
theorem HOk.laid (x : HOk P w H h) (k : ∀ b u, h.get? b = some u → h'.get? b = some u) (hp : h.objs.size ≤ a) (new : ObjOk P w (upd H a o) h' a o) : HOk P w (upd H a o) h' := fun b u e => by
  have hn := x.fresh hp
  by_cases hb : b = a
  · subst hb; rw [upd_same] at e; cases e; exact new
  · rw [upd_ne hb] at e
    exact (x b u e).stay (fun c v _ q => k c v q) (fun c q => by rw [upd_ne (ne_of_none q hn)]; exact q) fun c xs q => by rw [upd_ne (ne_of_none q hn)]; exact q
end
def Rd (H : Hp) (a : Addr) (u : HO) : Prop := H a = some u ∨ ∃ o, H a = some (.frz o u)
theorem Rd.ok {P : Program} {w : World} {H : Hp} {h : Heap} {a : Addr} {u : HO} (r : Rd H a u) (x : HOk P w H h) : ObjOk P w H h a u := by
  rcases r with r | ⟨o, r⟩
  · exact x a u r
  · obtain ⟨_, q⟩ := x a _ r
    exact q
def Mut : Option HO → Prop
  | some (.lst _) => True
  | some (.dK _) => True
  | some (.dT _) => True
  | some (.set _ _) => True
  | some (.ins _ _ _) => True
  | some (.ext _) => True
  | _ => False
section
variable {P : Program} {w : World} {H : Hp} {h h' : Heap} {x e : Addr} {o' : HO}
theorem HOk.write (ok : HOk P w H h) (mu : Mut (H x)) (he : e = x ∨ H e = some (.own x)) (k : ∀ b u, b ≠ e → h.get? b = some u → h'.get? b = some u) (heo : ∃ u, h'.get? e = some u)
    (new : ObjOk P w (upd H x o') h' x o') : HOk P w (upd H x o') h' := fun b u q => by
  have nown : ∀ c y, H c = some (.own y) → c ≠ x := fun c y r z => by subst z; rw [r] at mu; exact mu
  have ntup : ∀ c xs, H c = some (.tup xs) → c ≠ x := fun c xs r z => by subst z; rw [r] at mu; exact mu
  by_cases hb : b = x
  · subst hb; rw [upd_same] at q; cases q; exact new
  · rw [upd_ne hb] at q
    by_cases hbe : b = e
    · have q' : H b = some (.own x) := by
        rcases he with z | z
        · exact absurd (hbe.trans z) hb
        · rw [hbe]; exact z
      rw [q] at q'; cases q'
      obtain ⟨v, hv⟩ := heo
      exact ⟨v, by rw [hbe]; exact hv⟩
    · refine (ok b u q).stay (fun c v hc r => k c v ?_ r) (fun c r => by rw [upd_ne (nown c b r)]; exact r) fun c xs r => by rw [upd_ne (ntup c xs r)]; exact r
      rcases hc with rfl | hc
      · exact hbe
      · rintro rfl
        rcases he with z | z
        · exact nown c b hc z
        · rw [hc] at z; cases z; exact hb rfl
end
structure Un (fs ex : List Addr) (H H' : Hp) (h h' : Heap) : Prop where
  keep : ∀ b o, h.get? b = some o → H b = none → b ∉ fs → b ∉ ex → h'.get? b = some o
  slot : ∀ b o, h.get? b = some o → H b = none → b ∈ fs → b ∉ ex → ∃ sl, h'.get? b = some { o with slots := sl }
  free : ∀ b o, h.get? b = some o → H b = none → b ∉ ex → H' b = none
  there : ∀ b o, h.get? b = some o → b ∉ ex → ∃ o', h'.get? b = some o'
  tups : ∀ b xs, H b = some (.tup xs) → H' b = some (.tup xs)
  frzs : ∀ b o u, H b = some (.frz o u) → H' b = some (.frz o u)
  tbls : ∀ b ps, H b = some (.tbl ps) → ∃ more, H' b = some (.tbl (ps ++ more))
section
variable {fs fs' ex ex' : List Addr} {H H1 H2 : Hp} {h h1 h2 h' : Heap} {a x e : Addr} {o : HO}
theorem Un.any (u : Un fs ex H H1 h h1) {b : Addr} {ob : Obj} (q : h.get? b = some ob) (n : H b = none) (hx : b ∉ ex) : ∃ sl, h1.get? b = some { ob with slots := sl } := by
  by_cases hb : b ∈ fs
  · exact u.slot b ob q n hb hx
  · exact ⟨ob.slots, u.keep b ob q n hb hx⟩
theorem Un.kept (k : ∀ b u, h.get? b = some u → h'.get? b = some u) : Un fs ex H H h h' :=
  ⟨fun b ob q _ _ _ => k b ob q, fun b ob q _ _ _ => ⟨ob.slots, k b ob q⟩, fun _ _ _ n _ => n, fun b ob q _ => ⟨ob, k b ob q⟩, fun _ _ q => q, fun _ _ _ q => q, fun _ ps q => ⟨#[], by rw [q]; simp⟩⟩
theorem Un.refl : Un fs ex H H h h := Un.kept fun _ _ q => q
theorem Un.laid (k : ∀ b u, h.get? b = some u → h'.get? b = some u) (hp : h.objs.size ≤ a) (hn : H a = none) : Un fs ex H (upd H a o) h h' where
  keep := fun b u q _ _ _ => k b u q
  slot := fun b u q _ _ _ => ⟨u.slots, k b u q⟩
  free := fun b u q n _ => by rw [upd_ne (Nat.ne_of_lt (Nat.lt_of_lt_of_le (Heap.lt_size q) hp))]; exact n
  there := fun b u q _ => ⟨u, k b u q⟩
  tups := fun b xs q => by rw [upd_ne (ne_of_none q hn)]; exact q
  frzs := fun b u xs q => by rw [upd_ne (ne_of_none q hn)]; exact q
  tbls := fun b ps q => ⟨#[], by rw [upd_ne (ne_of_none q hn), q]; simp⟩
theorem Un.write (mu : Mut (H x)) (he : e = x ∨ H e = some (.own x)) (k : ∀ b u, b ≠ e → h.get? b = some u → h'.get? b = some u) (heo : ∃ u, h'.get? e = some u) : Un fs ex H (upd H x o) h h' := by
  have hx : ∀ b, H b = none → b ≠ x := fun b n z => by subst z; rw [n] at mu; exact mu
  have hb : ∀ b, H b = none → b ≠ e := fun b n z => by
    subst z
    rcases he with r | r
    · exact hx b n r
    · rw [n] at r; cases r
  have hm : ∀ b u, H b = some u → ¬ Mut (some u) → b ≠ x := fun b u q nm z => by subst z; rw [q] at mu; exact nm mu
  refine ⟨fun b u q n _ _ => k b u (hb b n) q, fun b u q n _ _ => ⟨u.slots, k b u (hb b n) q⟩, fun b u q n _ => by rw [upd_ne (hx b n)]; exact n, fun b u q _ => ?_,
    fun b xs q => by rw [upd_ne (hm b _ q fun z => z)]; exact q, fun b u xs q => by rw [upd_ne (hm b _ q fun z => z)]; exact q, fun b ps q => ⟨#[], by rw [upd_ne (hm b _ q fun z => z), q]; simp⟩⟩
  by_cases hbe : b = e
  · subst hbe; exact heo
  · exact ⟨u, k b u hbe q⟩
end
def trk (h : Heap) (H : Hp) : List Addr := (List.range h.objs.size).filter fun a => (H a).isSome
def hidT (h : Heap) (H : Hp) : Heap := PySem.W.hideAll h (trk h H)
theorem hidT_size (h : Heap) (H : Hp) : (hidT h H).objs.size = h.objs.size := PySem.W.hideAll_size _ _
theorem hidT_get {h : Heap} {H : Hp} {b : Addr} {o : Obj} (e : h.get? b = some o) (n : H b = none) : (hidT h H).get? b = some o :=
  PySem.W.hideAll_get _ e fun hm => by
    have q : (H b).isSome = true := (List.mem_filter.mp hm).2
    rw [n] at q; simp at q
theorem of_hidT {h : Heap} {H : Hp} {b : Addr} {o : Obj} (e : (hidT h H).get? b = some o) : h.get? b = some o ∧ H b = none := by
  have e' : h.get? b = some o := PySem.W.of_hideAll (trk h H) e
  refine ⟨e', ?_⟩
  cases q : H b with
  | none => rfl
  | some x =>
    have hm : b ∈ trk h H := List.mem_filter.mpr ⟨List.mem_range.mpr (Heap.lt_size e'), by simp [q]⟩
    have z : (hidT h H).get? b = none := PySem.W.hideAll_none (trk h H) hm
    rw [z] at e; cases e
def allNews (g h : Heap) (L : Addr) : List (Addr × Obj) := (List.range h.objs.size).filterMap fun a => if a = L ∨ (g.get? a).isSome = true then none else (h.get? a).map fun o => (a, o)
def rest (g h : Heap) (L d : Addr) : List (Addr × Obj) := (allNews g h L).filter fun p => decide (p.1 ≠ d)
end L2
namespace L2
open PySem PySem.Spec PyProof.Rows
structure Mod (K : PySem.W.Frag) (mg : Str → Option Value) (base : Heap) : Prop where
  kin : K.In base
  glob : base.Ns mainGlobals mg
  blt : ∃ mb, base.Ns builtinsNs mb ∧ ∀ x : Str, x ≠ "__name__" → mb x = bootBuiltins x
  nolimit : base.NoLimit
/-- the context: a def's body (or a comprehension's block) running. base: fixed through the whole law; s₀, H₀: the entry; outer: the frames whose slots others may change (a def's callers); stack: all frames that run;
   ex: iterators that were made ahead of the entry and are walked here (a comprehension's); fn: the names whose cells were made at the entry (a def: all; a comprehension's block: its own); calm: not within an except suite; pn: pins that every state bears; xe: what is wanted of an exception that leaves the code -/
structure Cx where
  prog : Program
  w : World
  K : PySem.W.Frag
  mg : Str → Option Value
  base : Heap
  A : Around
  N : List Str
  s₀ : Shared
  H₀ : Hp
  env : Env
  outer : List Env
  stack : List Env
  ex : List Addr
  fn : Str → Bool
  calm : Bool
  pn : List (Addr × Obj)
  xe : Value → Shared → Prop
def frs (l : List Env) : List Addr := l.filterMap (·.frame)
abbrev Cx.fs (X : Cx) : List Addr := frs X.outer
def Vis (sc : Scope) (x : Str) : Prop := sc.names.lookup x = some .local ∨ sc.names.lookup x = some .cell ∨ sc.names.lookup x = some .free
def Loc (sc : Scope) (x : Str) : Prop := sc.names.lookup x = some .local ∨ sc.names.lookup x = some .cell
def Look (env : Env) (h : Heap) (m : Str → Option Value) (x : Str) (u : Value) : Prop :=
  (env.kindOf x = some .local ∧ m x = some u) ∨ ((env.kindOf x = some .cell ∨ env.kindOf x = some .free) ∧ ∃ c, env.cells.lookup x = some c ∧ h.IsCell c (some u))
structure Cx.Ok (X : Cx) : Prop where
  mod : Mod X.K X.mg X.base
  kind : X.env.scope.kind = .function
  glob : X.env.globals = mainGlobals
  blt : X.env.builtins = builtinsNs
  above : X.s₀.heap.objs.size ≤ X.env.locals
  inj : ∀ x y c, X.env.cells.lookup x = some c → X.env.cells.lookup y = some c → x = y
  has : ∀ x, (X.env.kindOf x = some .cell ∨ X.env.kindOf x = some .free) → ∃ c, X.env.cells.lookup x = some c
  cab : ∀ x c, X.fn x = true → X.env.cells.lookup x = some c → X.s₀.heap.objs.size ≤ c
  hd : X.calm = true → X.A.handled = none
  frames : X.A.frames = some X.stack
  stk : X.stack = X.outer ∨ (X.stack = X.env :: X.outer ∧ X.env.frame = some X.env.locals)
  exf : ∀ b ∈ X.ex, b ≠ X.env.locals ∧ ∀ x c, X.env.cells.lookup x = some c → c ≠ b
  bs : ∀ b o, X.base.get? b = some o → X.s₀.heap.get? b = some o ∧ X.H₀ b = none
  bsz : X.base.objs.size ≤ X.s₀.heap.objs.size
  noex : ∀ b o, X.base.get? b = some o → b ∉ X.ex
  exfs : ∀ b ∈ X.ex, b ∉ X.fs
  funs : X.s₀.heap.FunFrames X.base X.outer
  frf : ∀ b ∈ X.fs, X.H₀ b = none
structure Inv (X : Cx) (pins : List (Addr × Obj)) (σ : List (Option V)) (H : Hp) (s : Shared) : Prop where
  ok : X.Ok
  os : s.os = X.s₀.os
  bare : AllBare s.gens
  base : Un X.fs X.ex X.H₀ H X.s₀.heap s.heap
  loc : ∃ m, s.heap.Ns X.env.locals m ∧ ∀ (i : Nat) (x : Str) (v : V), X.N[i]? = some x → σ[i]? = some (some v) → Vis X.env.scope x → ∃ u, RelV v u ∧ Look X.env s.heap m x u
  cell : ∀ x c, X.env.cells.lookup x = some c → ∃ v, s.heap.IsCell c v
  free : H X.env.locals = none
  freeC : ∀ x c, X.env.cells.lookup x = some c → H c = none
  pin : ∀ p ∈ X.pn ++ pins, s.heap.get? p.1 = some p.2 ∧ H p.1 = none ∧ p.1 ≠ X.env.locals ∧ p.1 ∉ X.fs ∧ ∀ v, p.2.data ≠ .cell v
  hok : HOk X.prog X.w H s.heap
  len : σ.length = X.N.length
section
variable {X : Cx} {pins : List (Addr × Obj)} {σ : List (Option V)} {H H' : Hp} {s : Shared} {h' : Heap}
theorem Cx.Ok.nofr (ok : X.Ok) {b : Addr} {o : Obj} (e : X.base.get? b = some o) : b ∉ X.fs := fun hb => by
  have := (ok.funs.mem hb).1
  rw [e] at this; cases this
theorem Inv.bs (I : Inv X pins σ H s) : ∀ b o, X.base.get? b = some o → s.heap.get? b = some o ∧ H b = none := fun b o e =>
  ⟨I.base.keep b o (I.ok.bs b o e).1 (I.ok.bs b o e).2 (I.ok.nofr e) (I.ok.noex b o e), I.base.free b o (I.ok.bs b o e).1 (I.ok.bs b o e).2 (I.ok.noex b o e)⟩
theorem Inv.bk (I : Inv X pins σ H s) : ∀ b o, X.base.get? b = some o → s.heap.get? b = some o := fun b o e => (I.bs b o e).1
theorem Inv.mod (I : Inv X pins σ H s) : Mod X.K X.mg X.base := I.ok.mod
theorem Inv.kIn (I : Inv X pins σ H s) : X.K.In s.heap := I.ok.mod.kin.keeps I.bk
theorem Inv.lt (I : Inv X pins σ H s) : X.env.locals < s.heap.objs.size := let ⟨_, hn, _⟩ := I.loc; hn.lt
theorem Inv.sz (I : Inv X pins σ H s) : X.s₀.heap.objs.size ≤ s.heap.objs.size := Nat.le_trans I.ok.above (Nat.le_of_lt I.lt)
theorem Inv.nofs (I : Inv X pins σ H s) {a : Addr} (h : s.heap.objs.size ≤ a) : a ∉ X.fs := fun hb => by
  obtain ⟨_, o, ho, _⟩ := I.ok.funs.mem hb
  exact absurd (Nat.lt_of_lt_of_le (Heap.lt_size ho) (Nat.le_trans I.sz h)) (Nat.lt_irrefl _)
theorem Inv.cne (I : Inv X pins σ H s) : ∀ x c, X.env.cells.lookup x = some c → c ≠ X.env.locals := fun x c e z => by
  obtain ⟨v, o, ho, hd⟩ := I.cell x c e
  obtain ⟨m, ⟨o', es, ep, ho', hd', _⟩, _⟩ := I.loc
  rw [z, ho'] at ho; cases ho; rw [hd'] at hd; cases hd
theorem Inv.funs (I : Inv X pins σ H s) : s.heap.FunFrames X.base X.outer := by
  have all : ∀ (l : List Env), (∀ b ∈ frs l, b ∈ X.fs) → X.s₀.heap.FunFrames X.base l → s.heap.FunFrames X.base l := by
    intro l
    induction l with
    | nil => intro _ _; trivial
    | cons env r ih =>
      intro hs hl
      obtain ⟨hk, ⟨L, o, hf, hn, ho, hd⟩, hr⟩ := hl
      have hL : L ∈ X.fs := hs L (by unfold frs; rw [List.filterMap_cons, hf]; exact List.mem_cons_self)
      obtain ⟨sl, e⟩ := I.base.slot L o ho (I.ok.frf L hL) hL fun z => I.ok.exfs L z hL
      exact ⟨hk, ⟨L, _, hf, hn, e, hd⟩, ih (fun b hb => hs b (by unfold frs; rw [List.filterMap_cons, hf]; exact List.mem_cons_of_mem _ hb)) hr⟩
  exact all X.outer (fun _ hb => hb) I.ok.funs
theorem Inv.stack (I : Inv X pins σ H s) : s.heap.FunFrames X.base X.stack := by
  rcases I.ok.stk with e | ⟨e, hf⟩
  · rw [e]; exact I.funs
  · rw [e]
    obtain ⟨m, hn, _⟩ := I.loc
    refine .cons (by rw [I.ok.kind]; decide) hf hn ?_ I.funs
    exact Heap.get?_none_of_le (Nat.le_trans I.ok.bsz I.ok.above)
theorem Inv.stkSub (I : Inv X pins σ H s) : ∀ b ∈ frs X.stack, b ∈ X.env.locals :: X.fs := fun b hb => by
  rcases I.ok.stk with e | ⟨e, hf⟩
  · rw [e] at hb; exact List.mem_cons_of_mem _ hb
  · rw [e] at hb
    unfold frs at hb
    rw [List.filterMap_cons, hf] at hb
    exact hb
theorem Inv.stkFree (I : Inv X pins σ H s) : ∀ b ∈ frs X.stack, H b = none := fun b hb => by
  rcases List.mem_cons.mp (I.stkSub b hb) with e | hb
  · rw [e]; exact I.free
  · obtain ⟨_, o, ho, _⟩ := I.ok.funs.mem hb
    exact I.base.free b o ho (I.ok.frf b hb) fun z => I.ok.exfs b z hb
theorem Inv.step {g' : Array GenState} {t' : Nat} {d' : Drawn} {ch : List Addr} (I : Inv X pins σ H s)
    (hch : ∀ b ∈ ch, (b ∈ X.ex ∨ X.s₀.heap.objs.size ≤ b) ∧ b ≠ X.env.locals ∧ (∀ x c, X.env.cells.lookup x = some c → c ≠ b) ∧ ∀ p ∈ X.pn ++ pins, p.1 ≠ b)
    (keep : ∀ b o, b ≠ X.env.locals → b ∉ X.fs → b ∉ ch → s.heap.get? b = some o → H b = none → h'.get? b = some o)
    (slot : ∀ b o, b ≠ X.env.locals → b ∈ X.fs → b ∉ ch → s.heap.get? b = some o → H b = none → ∃ sl, h'.get? b = some { o with slots := sl }) (free : ∀ b o, b ∉ ch → s.heap.get? b = some o → H b = none → H' b = none)
    (there : ∀ b o, b ∉ ch → s.heap.get? b = some o → ∃ o', h'.get? b = some o')
    (tups : ∀ b xs, H b = some (.tup xs) → H' b = some (.tup xs)) (frzs : ∀ b o u, H b = some (.frz o u) → H' b = some (.frz o u)) (tbls : ∀ b ps, H b = some (.tbl ps) → ∃ more, H' b = some (.tbl (ps ++ more)))
    (ns : ∀ m, s.heap.Ns X.env.locals m → h'.Ns X.env.locals m) (hok : HOk X.prog X.w H' h') (hg : AllBare g') :
    Inv X pins σ H' { s with heap := h', gens := g', drawn := d', toks := t' } := by
  have neL : ∀ b o, X.s₀.heap.get? b = some o → b ≠ X.env.locals := fun b o e => Nat.ne_of_lt (Nat.lt_of_lt_of_le (Heap.lt_size e) I.ok.above)
  have neC : ∀ b o, X.s₀.heap.get? b = some o → b ∉ X.ex → b ∉ ch := fun b o e hx hb => by
    rcases (hch b hb).1 with z | z
    · exact hx z
    · exact absurd (Nat.lt_of_lt_of_le (Heap.lt_size e) z) (Nat.lt_irrefl _)
  have cellK : ∀ x c, X.env.cells.lookup x = some c → ∀ v, s.heap.IsCell c v → h'.IsCell c v := fun x c e v ⟨o, ho, hd⟩ => by
    have nch : c ∉ ch := fun z => (hch c z).2.2.1 x c e rfl
    by_cases hc : c ∈ X.fs
    · obtain ⟨sl, q⟩ := slot c o (I.cne x c e) hc nch ho (I.freeC x c e)
      exact ⟨_, q, hd⟩
    · exact ⟨o, keep c o (I.cne x c e) hc nch ho (I.freeC x c e), hd⟩
  refine ⟨I.ok, I.os, hg, ⟨fun b o e n hb hx => ?_, fun b o e n hb hx => ?_, fun b o e n hx => ?_, fun b o e hx => ?_, fun b xs e => tups b xs (I.base.tups b xs e), fun b o xs e => frzs b o xs (I.base.frzs b o xs e), fun b ps e => ?_⟩, ?_, fun x c e => ?_, ?_, fun x c e => ?_, fun p hp => ?_, hok, I.len⟩
  · exact keep b o (neL b o e) hb (neC b o e hx) (I.base.keep b o e n hb hx) (I.base.free b o e n hx)
  · obtain ⟨sl, e1⟩ := I.base.slot b o e n hb hx
    obtain ⟨sl', e2⟩ := slot b _ (neL b o e) hb (neC b o e hx) e1 (I.base.free b o e n hx)
    exact ⟨sl', e2⟩
  · obtain ⟨o', e1⟩ := I.base.there b o e hx
    exact free b o' (neC b o e hx) e1 (I.base.free b o e n hx)
  · obtain ⟨o', e1⟩ := I.base.there b o e hx
    exact there b o' (neC b o e hx) e1
  · obtain ⟨m1, e1⟩ := I.base.tbls b ps e
    obtain ⟨m2, e2⟩ := tbls b _ e1
    exact ⟨m1 ++ m2, by rw [e2, Array.append_assoc]⟩
  · obtain ⟨m, hn, hl⟩ := I.loc
    refine ⟨m, ns m hn, fun i x v e1 e2 e3 => ?_⟩
    obtain ⟨u, r, l⟩ := hl i x v e1 e2 e3
    refine ⟨u, r, ?_⟩
    rcases l with l | ⟨k, c, e, z⟩
    · exact .inl l
    · exact .inr ⟨k, c, e, cellK x c e _ z⟩
  · obtain ⟨v, z⟩ := I.cell x c e
    exact ⟨v, cellK x c e v z⟩
  · obtain ⟨m, ⟨o, _, _, ho, _⟩, _⟩ := I.loc
    exact free _ o (fun z => (hch _ z).2.1 rfl) ho I.free
  · obtain ⟨v, o, ho, hd⟩ := I.cell x c e
    exact free c o (fun z => (hch c z).2.2.1 x c e rfl) ho (I.freeC x c e)
  · obtain ⟨e, n, ne, nf, d⟩ := I.pin p hp
    have nch : p.1 ∉ ch := fun z => (hch p.1 z).2.2.2 p hp rfl
    exact ⟨keep p.1 p.2 ne nf nch e n, free p.1 p.2 nch e n, ne, nf, d⟩
theorem Inv.un {t' : Nat} (I : Inv X pins σ H s) (u : Un X.fs [] H H' s.heap h') (hok : HOk X.prog X.w H' h') : Inv X pins σ H' { s with heap := h', toks := t' } := by
  obtain ⟨m, ⟨o, es, ep, ho, r⟩, _⟩ := id I.loc
  obtain ⟨sl, hL⟩ := u.any ho I.free (by simp)
  exact I.step (g' := s.gens) (d' := s.drawn) (ch := []) (fun _ z => nomatch z) (fun b o _ hb _ e n => u.keep b o e n hb (by simp)) (fun b o _ hb _ e n => u.slot b o e n hb (by simp)) (fun b o _ e n => u.free b o e n (by simp)) (fun b o _ e => u.there b o e (by simp)) u.tups u.frzs u.tbls (fun m' hm => by
    obtain ⟨o', es', ep', ho', r'⟩ := hm
    rw [ho] at ho'; cases ho'
    exact ⟨_, es', ep', hL, r'⟩) hok I.bare
theorem Inv.call {g' : Array GenState} {t' : Nat} {d' : Drawn} {ch : List Addr} (I : Inv X pins σ H s) (u : Un (frs X.stack) ch H H' s.heap h') (hok : HOk X.prog X.w H' h') (hg : AllBare g')
    (hch : ∀ b ∈ ch, (b ∈ X.ex ∨ X.s₀.heap.objs.size ≤ b) ∧ b ≠ X.env.locals ∧ (∀ x c, X.env.cells.lookup x = some c → c ≠ b) ∧ ∀ p ∈ X.pn ++ pins, p.1 ≠ b) :
    Inv X pins σ H' { s with heap := h', gens := g', drawn := d', toks := t' } := by
  obtain ⟨m, ⟨o, es, ep, ho, r⟩, _⟩ := id I.loc
  obtain ⟨sl, hL⟩ := u.any ho I.free fun z => (hch _ z).2.1 rfl
  exact I.step (ch := ch) hch (fun b o hL hb hc e n => u.keep b o e n (fun z => (List.mem_cons.mp (I.stkSub b z)).elim hL hb) hc) (fun b o _ _ hc e n => u.any e n hc) (fun b o hc e n => u.free b o e n hc) (fun b o hc e => u.there b o e hc) u.tups u.frzs u.tbls (fun m' hm => by
    obtain ⟨o', es', ep', ho', r'⟩ := hm
    rw [ho] at ho'; cases ho'
    exact ⟨_, es', ep', hL, r'⟩) hok hg
theorem Inv.turned {t' : Nat} {it : Addr} (I : Inv X pins σ H s) (k : ∀ b o, b ≠ it → s.heap.get? b = some o → h'.get? b = some o) (hn : H it = none) (hL : it ≠ X.env.locals)
    (h1 : it ∈ X.ex ∨ X.s₀.heap.objs.size ≤ it) (h2 : ∀ x c, X.env.cells.lookup x = some c → c ≠ it) (h3 : ∀ p ∈ X.pn ++ pins, p.1 ≠ it) : Inv X pins σ H { s with heap := h', toks := t' } := by
  have nit : ∀ b u, H b = some u → b ≠ it := fun b u e z => by rw [z, hn] at e; cases e
  refine I.step (g' := s.gens) (d' := s.drawn) (ch := [it]) (fun b hb => ?_) (fun b o _ _ hc e _ => k b o (fun z => hc (by simp [z])) e) (fun b o _ _ hc e _ => ⟨o.slots, k b o (fun z => hc (by simp [z])) e⟩) (fun _ _ _ _ n => n)
    (fun b o hc e => ⟨o, k b o (fun z => hc (by simp [z])) e⟩) (fun _ _ e => e) (fun _ _ _ e => e) (fun b ps e => ⟨#[], by rw [e]; simp⟩) (fun m hm => ?_) (fun b u e => ?_) I.bare
  · have e : b = it := by simpa using hb
    subst e
    exact ⟨h1, hL, h2, h3⟩
  · obtain ⟨o, es, ep, ho, r⟩ := hm
    exact ⟨o, es, ep, k _ o (Ne.symm hL) ho, r⟩
  · refine (I.hok b u e).stay (fun c v hc q => k c v ?_ q) (fun _ q => q) fun _ _ q => q
    rcases hc with z | z
    · rw [z]; exact nit b u e
    · exact nit c _ z
theorem Inv.tok (I : Inv X pins σ H s) (t : Nat) : Inv X pins σ H { s with toks := t } := I.un (h' := s.heap) (t' := t) Un.refl I.hok
theorem Inv.kept {t' : Nat} (I : Inv X pins σ H s) (k : ∀ b u, s.heap.get? b = some u → h'.get? b = some u) : Inv X pins σ H { s with heap := h', toks := t' } := I.un (Un.kept k) (I.hok.kept k)
theorem Inv.laid {a : Addr} {o : HO} {t' : Nat} (I : Inv X pins σ H s) (k : ∀ b u, s.heap.get? b = some u → h'.get? b = some u) (hp : s.heap.objs.size ≤ a) (new : ObjOk X.prog X.w (upd H a o) h' a o) :
    Inv X pins σ (upd H a o) { s with heap := h', toks := t' } := I.un (Un.laid k hp (I.hok.fresh hp)) (I.hok.laid k hp new)
theorem Inv.write {x e : Addr} {o : HO} {t' : Nat} (I : Inv X pins σ H s) (mu : Mut (H x)) (he : e = x ∨ H e = some (.own x)) (k : ∀ b u, b ≠ e → s.heap.get? b = some u → h'.get? b = some u) (heo : ∃ u, h'.get? e = some u)
    (new : ObjOk X.prog X.w (upd H x o) h' x o) : Inv X pins σ (upd H x o) { s with heap := h', toks := t' } := I.un (Un.write mu he k heo) (I.hok.write mu he k heo new)
theorem Inv.weak {σ' : List (Option V)} (I : Inv X pins σ H s) (hl : σ'.length = σ.length) (w : ∀ (i : Nat) v, σ'[i]? = some (some v) → σ[i]? = some (some v)) : Inv X pins σ' H s :=
  ⟨I.ok, I.os, I.bare, I.base, let ⟨m, hn, hl'⟩ := I.loc; ⟨m, hn, fun i x v e1 e2 e3 => hl' i x v e1 (w i v e2) e3⟩, I.cell, I.free, I.freeC, I.pin, I.hok, hl.trans I.len⟩
theorem Inv.pins_of {pins' : List (Addr × Obj)} (I : Inv X pins σ H s) (h : ∀ p ∈ pins', s.heap.get? p.1 = some p.2 ∧ H p.1 = none ∧ p.1 ≠ X.env.locals ∧ p.1 ∉ X.fs ∧ ∀ v, p.2.data ≠ .cell v) : Inv X pins' σ H s :=
  ⟨I.ok, I.os, I.bare, I.base, I.loc, I.cell, I.free, I.freeC, fun p hp => (List.mem_append.mp hp).elim (fun z => I.pin p (List.mem_append_left _ z)) (h p), I.hok, I.len⟩
theorem nodup_ix {N : List Str} (hN : N.Nodup) {i j : Nat} {x : Str} (a : N[i]? = some x) (b : N[j]? = some x) : i = j := by
  obtain ⟨h1, e1⟩ := List.getElem?_eq_some_iff.mp a
  obtain ⟨h2, e2⟩ := List.getElem?_eq_some_iff.mp b
  exact (List.getElem_inj hN).mp (e1.trans e2.symm)
theorem store_ok2 {M : Model} {A : Around} {E : Value → Shared → Prop} {i : Nat} {x : Str} {v : V} {u : Value} {Q : Unit → Shared → Prop} (I : Inv X pins σ H s) (hN : X.N.Nodup) (hi : X.N[i]? = some x) (hx : Loc X.env.scope x) (r : RelV v u)
    (h : ∀ s', Inv X pins (σ.set i (some v)) H s' → (∃ a, Heap.SameBut a s.heap s'.heap ∧ (a = X.env.locals ∨ X.env.cells.lookup x = some a)) → Q () s') (hf : X.fn x = true ∨ X.env.scope.names.lookup x = some .local := by first | exact .inl rfl | exact .inr rfl | assumption) : wpAny M A (storeName X.env x u) Q E s := by
  obtain ⟨m, hn, hl⟩ := id I.loc
  have hcls : (X.env.scope.kind == .class || (X.env.scope.kind == .module && X.env.locals != X.env.globals)) = false := by rw [I.ok.kind]; rfl
  have hiσ : i < σ.length := by rw [I.len]; exact (List.getElem?_eq_some_iff.mp hi).1
  have cne := I.cne
  have tracked : ∀ {a : Addr} {h' : Heap}, (∃ o, s.heap.get? a = some o ∧ H a = none) → Heap.SameBut a s.heap h' → HOk X.prog X.w H h' := fun {a h'} ha hs b ob e => by
    obtain ⟨_, _, hfree⟩ := ha
    refine (I.hok b ob e).stay (fun c w' hc q => (hs.2 c ?_).trans q) (fun _ q => q) fun _ _ q => q
    rintro rfl
    rcases hc with rfl | hc
    · rw [hfree] at e; cases e
    · rw [hfree] at hc; cases hc
  rcases hx with hk | hk
  · refine wpAny_storeName_local hk hn (fun h' hn' hs => ?_) hcls
    obtain ⟨oL, _, _, hoL, _⟩ := id hn
    refine h _ ⟨I.ok, I.os, I.bare, ⟨fun b o e n hb hx => ?_, fun b o e n hb hx => ?_, I.base.free, fun b o e hx => ?_, I.base.tups, I.base.frzs, I.base.tbls⟩, ⟨_, hn', fun j y v' e1 e2 e3 => ?_⟩, fun y c e => ?_, I.free, I.freeC, fun p hp => ?_, tracked ⟨oL, hoL, I.free⟩ hs, by simpa using I.len⟩ ⟨_, hs, .inl rfl⟩
    · exact (hs.2 b (Nat.ne_of_lt (Nat.lt_of_lt_of_le (Heap.lt_size e) I.ok.above))).trans (I.base.keep b o e n hb hx)
    · obtain ⟨sl, e1⟩ := I.base.slot b o e n hb hx
      exact ⟨sl, (hs.2 b (Nat.ne_of_lt (Nat.lt_of_lt_of_le (Heap.lt_size e) I.ok.above))).trans e1⟩
    · obtain ⟨o', e1⟩ := I.base.there b o e hx
      exact ⟨o', (hs.2 b (Nat.ne_of_lt (Nat.lt_of_lt_of_le (Heap.lt_size e) I.ok.above))).trans e1⟩
    · by_cases hj : j = i
      · subst hj
        rw [hi] at e1; cases e1
        rw [List.getElem?_set_self hiσ] at e2
        cases e2
        exact ⟨u, r, .inl ⟨hk, by simp⟩⟩
      · rw [List.getElem?_set_ne (Ne.symm hj)] at e2
        obtain ⟨u', r', q⟩ := hl j y v' e1 e2 e3
        refine ⟨u', r', ?_⟩
        rcases q with ⟨k, e⟩ | ⟨k, c, e, z⟩
        · refine .inl ⟨k, ?_⟩
          have : y ≠ x := fun e => hj (nodup_ix hN e1 (e ▸ hi))
          simp [this, e]
        · exact .inr ⟨k, c, e, z.sameBut hs (cne y c e)⟩
    · obtain ⟨w', z⟩ := I.cell y c e
      exact ⟨w', z.sameBut hs (cne y c e)⟩
    · obtain ⟨e, n, ne, nf, d⟩ := I.pin p hp
      exact ⟨(hs.2 p.1 ne).trans e, n, ne, nf, d⟩
  · have hfn : X.fn x = true := by
      rcases hf with z | z
      · exact z
      · rw [z] at hk; cases hk
    obtain ⟨c, hc⟩ := I.ok.has x (.inl hk)
    obtain ⟨w', z⟩ := I.cell x c hc
    refine wpAny_storeName_cell I.ok.kind hk hc z (fun h' hc' hs => ?_)
    obtain ⟨oc, hoc, hocd⟩ := id z
    refine h { s with heap := h' } ⟨I.ok, I.os, I.bare, ⟨fun b o e n hb hx => ?_, fun b o e n hb hx => ?_, I.base.free, fun b o e hx => ?_, I.base.tups, I.base.frzs, I.base.tbls⟩, ⟨m, hn.sameBut hs (Ne.symm (cne x c hc)), fun j y v' e1 e2 e3 => ?_⟩, fun y c' e => ?_, I.free, I.freeC, fun p hp => ?_, tracked ⟨oc, hoc, I.freeC x c hc⟩ hs, by simpa using I.len⟩ ⟨c, hs, .inr hc⟩
    · exact (hs.2 b (Nat.ne_of_lt (Nat.lt_of_lt_of_le (Heap.lt_size e) (I.ok.cab x c hfn hc)))).trans (I.base.keep b o e n hb hx)
    · obtain ⟨sl, e1⟩ := I.base.slot b o e n hb hx
      exact ⟨sl, (hs.2 b (Nat.ne_of_lt (Nat.lt_of_lt_of_le (Heap.lt_size e) (I.ok.cab x c hfn hc)))).trans e1⟩
    · obtain ⟨o', e1⟩ := I.base.there b o e hx
      exact ⟨o', (hs.2 b (Nat.ne_of_lt (Nat.lt_of_lt_of_le (Heap.lt_size e) (I.ok.cab x c hfn hc)))).trans e1⟩
    · by_cases hj : j = i
      · subst hj
        rw [hi] at e1; cases e1
        rw [List.getElem?_set_self hiσ] at e2
        cases e2
        exact ⟨u, r, .inr ⟨.inl hk, c, hc, hc'⟩⟩
      · rw [List.getElem?_set_ne (Ne.symm hj)] at e2
        obtain ⟨u', r', q⟩ := hl j y v' e1 e2 e3
        refine ⟨u', r', ?_⟩
        rcases q with q | ⟨k, c', e, z'⟩
        · exact .inl q
        · refine .inr ⟨k, c', e, z'.sameBut hs ?_⟩
          rintro rfl
          exact hj (nodup_ix hN e1 (I.ok.inj _ _ _ e hc ▸ hi))
    · by_cases hcc : c' = c
      · subst hcc; exact ⟨_, hc'⟩
      · obtain ⟨w2, z2⟩ := I.cell y c' e
        exact ⟨w2, z2.sameBut hs hcc⟩
    · obtain ⟨e, n, ne, nf, d⟩ := I.pin p hp
      refine ⟨(hs.2 p.1 ?_).trans e, n, ne, nf, d⟩
      intro q
      rw [q, hoc] at e
      have q' : oc = p.2 := Option.some.inj e
      exact d w' (by rw [← q']; exact hocd)
theorem store_ok {M : Model} {A : Around} {E : Value → Shared → Prop} {i : Nat} {x : Str} {v : V} {u : Value} {Q : Unit → Shared → Prop} (I : Inv X pins σ H s) (hN : X.N.Nodup) (hi : X.N[i]? = some x) (hx : Loc X.env.scope x) (r : RelV v u)
    (h : ∀ s', Inv X pins (σ.set i (some v)) H s' → Q () s') (hf : X.fn x = true ∨ X.env.scope.names.lookup x = some .local := by first | exact .inl rfl | exact .inr rfl | assumption) : wpAny M A (storeName X.env x u) Q E s :=
  store_ok2 I hN hi hx r (fun s' I' _ => h s' I') hf
theorem Inv.call' {s' : Shared} {ch : List Addr} (I : Inv X pins σ H s) (ho : s'.os = s.os) (u : Un (frs X.stack) ch H H' s.heap s'.heap) (hok : HOk X.prog X.w H' s'.heap) (hg : AllBare s'.gens)
    (hch : ∀ b ∈ ch, (b ∈ X.ex ∨ X.s₀.heap.objs.size ≤ b) ∧ b ≠ X.env.locals ∧ (∀ x c, X.env.cells.lookup x = some c → c ≠ b) ∧ ∀ p ∈ X.pn ++ pins, p.1 ≠ b) : Inv X pins σ H' s' := by
  obtain ⟨h', g', d', t', o'⟩ := s'
  have e : o' = s.os := ho
  subst e
  exact I.call (g' := g') (t' := t') (d' := d') u hok hg hch
end
abbrev XK := Value → Option Addr → Hp → Prop
abbrev St := List (Option V)
abbrev VK := V → Hp → Prop
abbrev TE := St → Hp → VK → Prop
abbrev TT := St → Hp → (Bool → Hp → Prop) → Prop
abbrev TA := St → Hp → (List V → Hp → Prop) → Prop
structure Ends where
  nx : St → Hp → Prop
  rt : VK
  bk : St → Hp → Prop := fun _ _ => False
  ct : St → Hp → Prop := fun _ _ => False
abbrev TS := Ends → St → Hp → Prop
def EP (X : Cx) (pins : List (Addr × Obj)) (σ : St) (Q : VK) (u : Value) (s' : Shared) : Prop := ∃ v H', Inv X pins σ H' s' ∧ RelV v u ∧ Q v H'
def TP (X : Cx) (pins : List (Addr × Obj)) (σ : St) (Q : Bool → Hp → Prop) (b : Bool) (s' : Shared) : Prop := ∃ H', Inv X pins σ H' s' ∧ Q b H'
def AP (X : Cx) (pins : List (Addr × Obj)) (σ : St) (Q : List V → Hp → Prop) (us : List Value) (s' : Shared) : Prop := ∃ vs H', Inv X pins σ H' s' ∧ Vals vs us ∧ Q vs H'
def SP (X : Cx) (pins : List (Addr × Obj)) (D : Ends) (f : Flow) (s' : Shared) : Prop :=
  match f with
  | .next => ∃ σ' H', Inv X pins σ' H' s' ∧ D.nx σ' H'
  | .brk => ∃ σ' H', Inv X pins σ' H' s' ∧ D.bk σ' H'
  | .cont => ∃ σ' H', Inv X pins σ' H' s' ∧ D.ct σ' H'
  | .ret u => ∃ v σ' H', Inv X pins σ' H' s' ∧ RelV v u ∧ D.rt v H'
def PE (X : Cx) (e : Expr) (t : TE) : Prop :=
  ∀ (pins : List (Addr × Obj)) (s : Shared) (σ : St) (H : Hp) (Q : VK), Inv X pins σ H s → t σ H Q → wpAny (model X.prog X.w) X.A (eval e X.env) (EP X pins σ Q) X.xe s
def PT (X : Cx) (e : Expr) (t : TT) : Prop :=
  ∀ (pins : List (Addr × Obj)) (s : Shared) (σ : St) (H : Hp) (Q : Bool → Hp → Prop), Inv X pins σ H s → t σ H Q → wpAny (model X.prog X.w) X.A (isTrue e X.env (eval e X.env)) (TP X pins σ Q) X.xe s
def PW (X : Cx) (e : Expr) (t : TT) : Prop :=
  ∀ (whole : Sem Value) (pins : List (Addr × Obj)) (s : Shared) (σ : St) (H : Hp) (Q : Bool → Hp → Prop), Inv X pins σ H s → t σ H Q → wpAny (model X.prog X.w) X.A (isTrue e X.env whole) (TP X pins σ Q) X.xe s
theorem PW.pt {X : Cx} {e : Expr} {t : TT} (h : PW X e t) : PT X e t := h _
def PA (X : Cx) (es : List Expr) (t : TA) : Prop :=
  ∀ (pos : Pos) (pins : List (Addr × Obj)) (s : Shared) (σ : St) (H : Hp) (Q : List V → Hp → Prop), Inv X pins σ H s → t σ H Q → wpAny (model X.prog X.w) X.A (spliced (backTo pos (starEach es X.env))) (AP X pins σ Q) X.xe s
def PS (X : Cx) (st : Stmt) (t : TS) : Prop :=
  ∀ (pins : List (Addr × Obj)) (s : Shared) (σ : St) (H : Hp) (D : Ends), Inv X pins σ H s → t D σ H → wpAny (model X.prog X.w) X.A (exec st X.env) (SP X pins D) X.xe s
def PSs (X : Cx) (st : List Stmt) (t : TS) : Prop :=
  ∀ (pins : List (Addr × Obj)) (s : Shared) (σ : St) (H : Hp) (D : Ends), Inv X pins σ H s → t D σ H → wpAny (model X.prog X.w) X.A (execs st X.env) (SP X pins D) X.xe s
theorem thn {α : Type} {t : Sem α} {Q Q' : α → Shared → Prop} {M : Model} {A : Around} {E : Value → Shared → Prop} {s : Shared} (h : wpAny M A t Q E s) (hQ : ∀ a s, Q a s → Q' a s) : wpAny M A t Q' E s := wpAny_mono h hQ fun _ _ x => x
end L2
namespace L2
open PySem PySem.Spec PyProof.Rows
section
variable {X : Cx}
def tVar (i : Nat) : TE := fun σ H Q => ∃ v, σ[i]? = some (some v) ∧ Q v H
def tC (v : V) : TE := fun _ H Q => Q v H
theorem pe_var {i : Nat} {x : Str} {pos : Pos} (hN : X.N[i]? = some x) (hv : Vis X.env.scope x) (hd : (x == ("__debug__" : Str)) = false := by decide) (hcd : (x == ("__classdict__" : Str)) = false := by decide) : PE X (.Name x pos) (tVar i) := by
  intro pins s σ H Q I h
  obtain ⟨v, e, h⟩ := h
  obtain ⟨m, hn, hl⟩ := I.loc
  obtain ⟨u, r, l⟩ := hl i x v hN e hv
  have fin : EP X pins σ Q u s := ⟨v, H, I, r, h⟩
  rcases l with ⟨hk, hm⟩ | ⟨hk, c, hc, hcell⟩
  · exact wpAny_Name (wpAny_loadName_local I.ok.kind hk hn hm fin) hd
  · rcases hk with hk | hk
    · exact wpAny_Name (wpAny_loadName_cell I.ok.kind hk hc hcell fin) hd
    · exact wpAny_Name (wpAny_loadName_free I.ok.kind hk hc hcell fin hcd) hd
theorem pe_int {i j pos} : PE X (.Constant (.int i) j pos) (tC (.int i)) := fun _ _ _ H _ I h => wpAny_Constant_int ⟨.int i, H, I.tok _, ⟨_, rfl⟩, h⟩
theorem pe_bl {b j pos} : PE X (.Constant (.bool b) j pos) (tC (.bl b)) := fun _ _ _ H _ I h => Constant_bool ⟨.bl b, H, I, rfl, h⟩
theorem pe_non {j pos} : PE X (.Constant .none j pos) (tC .non) := fun _ _ _ H _ I h => Constant_none ⟨.non, H, I, rfl, h⟩
theorem pe_str {x j pos} : PE X (.Constant (.str x) j pos) (tC (.str x)) := fun _ _ _ H _ I h => Calls.Constant_str ⟨.str x, H, I.tok _, ⟨_, rfl⟩, h⟩
def Gl (X : Cx) (x : Str) : Prop := X.env.kindOf x = some .globalImplicit
theorem ld_glob {E : Value → Shared → Prop} {pins : List (Addr × Obj)} {s : Shared} {σ : St} {H : Hp} {x : Str} {u : Value} {pos : Pos} {Q : Value → Shared → Prop} (I : Inv X pins σ H s) (hg : Gl X x) (hm : X.mg x = some u) (h : Q u s)
    (hd : (x == ("__debug__" : Str)) = false := by decide) : wpAny (model X.prog X.w) X.A (eval (.Name x pos) X.env) Q E s :=
  Calls.Name_function_global I.ok.kind hg (Calls.loadGlobal_global (by rw [I.ok.glob]; exact I.mod.glob.keeps I.bk) hm h) hd
theorem ld_blt {E : Value → Shared → Prop} {pins : List (Addr × Obj)} {s : Shared} {σ : St} {H : Hp} {x : Str} {u : Value} {pos : Pos} {Q : Value → Shared → Prop} (I : Inv X pins σ H s) (hg : Gl X x) (hm : X.mg x = none) (hv : bootBuiltins x = some u) (h : Q u s)
    (hn : x ≠ "__name__" := by decide) (hd : (x == ("__debug__" : Str)) = false := by decide) : wpAny (model X.prog X.w) X.A (eval (.Name x pos) X.env) Q E s := by
  obtain ⟨mb, h1, h2⟩ := I.mod.blt
  exact Calls.Name_function_global I.ok.kind hg (Calls.loadGlobal_builtin (by rw [I.ok.glob]; exact I.mod.glob.keeps I.bk) hm (by rw [I.ok.blt]; exact h1.keeps I.bk) ((h2 x hn).trans hv) h) hd
theorem pe_glob {x : Str} {v : V} {u : Value} {pos : Pos} (hg : Gl X x) (hm : X.mg x = some u) (r : RelV v u) (hd : (x == ("__debug__" : Str)) = false := by decide) : PE X (.Name x pos) (tC v) :=
  fun _ _ _ H _ I h => ld_glob I hg hm ⟨v, H, I, r, h⟩ hd
theorem pe_bltn {x : Str} {v : V} {u : Value} {pos : Pos} (hg : Gl X x) (hm : X.mg x = none) (hv : bootBuiltins x = some u) (r : RelV v u) (hn : x ≠ "__name__" := by decide) (hd : (x == ("__debug__" : Str)) = false := by decide) : PE X (.Name x pos) (tC v) :=
  fun _ _ _ H _ I h => ld_blt I hg hm hv ⟨v, H, I, r, h⟩ hn hd
def t2I (ta tb : TE) (k : Int → Int → Hp → Prop) : St → Hp → Prop := fun σ H => ta σ H fun x H1 => tb σ H1 fun y H2 => ∃ i j, x = .int i ∧ y = .int j ∧ k i j H2
def tAdd (ta tb : TE) : TE := fun σ H Q => t2I ta tb (fun i j H2 => Q (.int (i + j)) H2) σ H
def tSub (ta tb : TE) : TE := fun σ H Q => t2I ta tb (fun i j H2 => Q (.int (i - j)) H2) σ H
def tMul (ta tb : TE) : TE := fun σ H Q => t2I ta tb (fun i j H2 => (-(2 ^ 64) < i ∧ i < 2 ^ 64) ∧ Q (.int (i * j)) H2) σ H
variable {a b : Expr} {ta tb : TE} {pos : Pos}
def PC (X : Cx) (op : CmpOp) (a b : Expr) (t : TE) : Prop :=
  ∀ (pins : List (Addr × Obj)) (s : Shared) (σ : St) (H : Hp) (Q : VK), Inv X pins σ H s → t σ H Q →
    wpAny (model X.prog X.w) X.A (eval a X.env) (fun v s₁ => wpAny (model X.prog X.w) X.A (eval b X.env) (fun u s₂ => wpAny (model X.prog X.w) X.A (compareOp op v u) (EP X pins σ Q) X.xe s₂) X.xe s₁) X.xe s
theorem nobehind (b : Expr) {op : CmpOp} (h : op ≠ .In) (h2 : op ≠ .NotIn) : behindInMarks op b = false := by
  have e1 : (op == CmpOp.In) = false := by cases op <;> first | rfl | exact absurd rfl h
  have e2 : (op == CmpOp.NotIn) = false := by cases op <;> first | rfl | exact absurd rfl h2
  cases b <;> simp [behindInMarks, e1, e2]
def tCmp (p : Int → Int → Bool) (ta tb : TE) : TE := fun σ H Q => t2I ta tb (fun i j H2 => Q (.bl (p i j)) H2) σ H
abbrev tLt : TE → TE → TE := tCmp fun i j => decide (i < j)
abbrev tLe : TE → TE → TE := tCmp fun i j => decide (i ≤ j)
abbrev tGt : TE → TE → TE := tCmp fun i j => decide (j < i)
abbrev tGe : TE → TE → TE := tCmp fun i j => decide (j ≤ i)
abbrev tEqI : TE → TE → TE := tCmp fun i j => decide (i = j)
abbrev tNeI : TE → TE → TE := tCmp fun i j => !decide (i = j)
def tIsN (ta : TE) : TE := fun σ H Q => ta σ H fun x H1 => Q (.bl (decide (x = .non))) H1
def tNotN (ta : TE) : TE := fun σ H Q => ta σ H fun x H1 => Q (.bl (!decide (x = .non))) H1
theorem RelV.none_iff {x : V} {v : Value} (r : RelV x v) : (v == Value.none) = decide (x = .non) := by
  cases x with
  | non => cases r; rfl
  | bl _ => cases r; rfl
  | int _ => obtain ⟨t, rfl⟩ := r; rfl
  | str _ => obtain ⟨t, rfl⟩ := r; rfl
  | byt _ => obtain ⟨t, rfl⟩ := r; rfl
  | flt _ => obtain ⟨t, rfl⟩ := r; rfl
  | ref _ => cases r; rfl
  | ty _ => cases r; rfl
theorem pc_isN {j pos'} (ha : PE X a ta) : PC X .Is a (.Constant .none j pos') (tIsN ta) := by
  intro pins s σ H Q I h
  refine thn (ha pins s σ H _ I h) fun v s1 ⟨x, H1, I1, r1, q1⟩ => ?_
  exact Constant_none (is_none_gen ⟨.bl _, H1, I1, by rw [r1.none_iff]; rfl, q1⟩)
theorem pc_notN {j pos'} (ha : PE X a ta) : PC X .IsNot a (.Constant .none j pos') (tNotN ta) := by
  intro pins s σ H Q I h
  refine thn (ha pins s σ H _ I h) fun v s1 ⟨x, H1, I1, r1, q1⟩ => ?_
  exact Constant_none (isnot_none_gen ⟨.bl _, H1, I1, by rw [r1.none_iff]; rfl, q1⟩)
def tB (t : TE) : TT := fun σ H Q => t σ H fun x H1 => ∃ c, x = .bl c ∧ Q c H1
theorem pe_cmp {op : CmpOp} {t : TE} (h : PC X op a b t) (h1 : behindInMarks op b = false := by first | exact nobehind _ (by decide) (by decide) | rfl) : PE X (.Compare a [op] [b] pos) t := fun pins s σ H Q I hw => wpAny_Compare1 (h pins s σ H Q I hw) h1
theorem pt_val {e : Expr} {t : TE} (h : PE X e t) (he : ∀ whole, isTrue e X.env whole = (do let v ← whole; standAt e.pos; holding [v] (truthy v)) := by intro _; rfl) : PT X e (tB t) := by
  intro pins s σ H Q I hw
  refine isTrue_plain (thn (h pins s σ H _ I hw) fun v s1 ⟨x, H1, I1, r1, q1⟩ => ?_) (he _)
  obtain ⟨d, rfl, q⟩ := q1
  cases r1
  exact wpAny_truthy_bool ⟨H1, I1, q⟩
variable {tA tB' : TT} {rest : List Expr}
def tAnd (t u : TT) : TT := fun σ H Q => t σ H fun c H1 => if c = true then u σ H1 Q else Q false H1
def tOr (t u : TT) : TT := fun σ H Q => t σ H fun c H1 => if c = true then Q true H1 else u σ H1 Q
def tNot (t : TT) : TT := fun σ H Q => t σ H fun c H1 => Q (!c) H1
theorem pw_and1 (ha : PT X a tA) : PW X (.BoolOp .And [a] pos) tA := by
  intro wh pins s σ H Q I h
  refine isTrue_and (thn (ha pins s σ H Q I h) fun c s1 e => ?_)
  cases c with
  | true => exact isTrue_and_nil e
  | false => exact e
theorem pw_or1 (ha : PT X a tA) : PW X (.BoolOp .Or [a] pos) tA := by
  intro wh pins s σ H Q I h
  refine isTrue_or (thn (ha pins s σ H Q I h) fun c s1 e => ?_)
  cases c with
  | false => exact isTrue_or_nil e
  | true => exact e
theorem pw_and (ha : PT X a tA) (hb : PW X (.BoolOp .And (b :: rest) pos) tB') : PW X (.BoolOp .And (a :: b :: rest) pos) (tAnd tA tB') := by
  intro wh pins s σ H Q I h
  refine isTrue_and (thn (ha pins s σ H _ I h) fun c s1 ⟨H1, I1, q1⟩ => ?_)
  cases c with
  | true => exact hb wh pins s1 σ H1 Q I1 q1
  | false => exact ⟨H1, I1, q1⟩
theorem pw_or (ha : PT X a tA) (hb : PW X (.BoolOp .Or (b :: rest) pos) tB') : PW X (.BoolOp .Or (a :: b :: rest) pos) (tOr tA tB') := by
  intro wh pins s σ H Q I h
  refine isTrue_or (thn (ha pins s σ H _ I h) fun c s1 ⟨H1, I1, q1⟩ => ?_)
  cases c with
  | true => exact ⟨H1, I1, q1⟩
  | false => exact hb wh pins s1 σ H1 Q I1 q1
theorem pt_not (ha : PT X a tA) : PT X (.UnaryOp .Not a pos) (tNot tA) := by
  intro pins s σ H Q I h
  exact isTrue_not (ha pins s σ H (fun c H1 => Q (!c) H1) I h)
def tAndV (ta tb : TE) : TE := fun σ H Q => ta σ H fun x H1 => ∃ c, x = .bl c ∧ if c = true then tb σ H1 Q else Q (.bl false) H1
def tOrV (ta tb : TE) : TE := fun σ H Q => ta σ H fun x H1 => ∃ c, x = .bl c ∧ if c = true then Q (.bl true) H1 else tb σ H1 Q
def tNotV (ta : TE) : TE := fun σ H Q => ta σ H fun x H1 => ∃ c, x = .bl c ∧ Q (.bl (!c)) H1
theorem pe_one {op} {t : TE} (h : PE X a t) : PE X (.BoolOp op [a] pos) t := fun pins s σ H Q I hw => BoolOp_one (h pins s σ H Q I hw)
theorem pe_and (ha : PE X a ta) (hb : PE X (.BoolOp .And (b :: rest) pos) tb) : PE X (.BoolOp .And (a :: b :: rest) pos) (tAndV ta tb) := by
  intro pins s σ H Q I h
  refine BoolOp_and (thn (ha pins s σ H _ I h) fun v s1 ⟨x, H1, I1, r1, q1⟩ => ?_)
  obtain ⟨c, rfl, q1⟩ := q1
  cases r1
  refine wpAny_truthy_bool ?_
  cases c with
  | true => exact hb pins s1 σ H1 Q I1 q1
  | false => exact ⟨.bl false, H1, I1, rfl, q1⟩
def tIf (t : TT) (ta tb : TE) : TE := fun σ H Q => t σ H fun c H1 => if c = true then ta σ H1 Q else tb σ H1 Q
end
end L2
namespace L2
open PySem PySem.Spec PyProof.Rows
def SqL (K : PySem.W.Frag) (H : Hp) (a : Addr) (xs : List V) : Prop :=
  Rd H a (.lst xs) ∨
    ∃ (o : Obj) (its : Array Value) (n : Nat), K.lookup a = some o ∧ o.cls = .type "list" ∧ o.dict = none ∧ o.data = .seq its n ∧ its.size ≤ sizeLine ∧ Vals xs its.toList
def SqT (K : PySem.W.Frag) (H : Hp) (a : Addr) (xs : List V) : Prop :=
  Rd H a (.tup xs) ∨
    ∃ (o : Obj) (its : Array Value) (n : Nat), K.lookup a = some o ∧ o.cls = .type "tuple" ∧ o.data = .seq its n ∧ its.size ≤ sizeLine ∧ Vals xs its.toList
def absV : Value → Option V
  | .none => some .non
  | .bool b => some (.bl b)
  | .int i _ => some (.int i)
  | .str x _ => some (.str x)
  | .bytes b _ => some (.byt b)
  | .float b _ => some (.flt b)
  | .ref a => some (.ref a)
  | .type n => some (.ty n)
  | _ => none
theorem RelV.abs {x : V} {u : Value} (r : RelV x u) : absV u = some x := by
  cases x with
  | non => cases r; rfl
  | bl _ => cases r; rfl
  | int _ => obtain ⟨t, rfl⟩ := r; rfl
  | str _ => obtain ⟨t, rfl⟩ := r; rfl
  | byt _ => obtain ⟨t, rfl⟩ := r; rfl
  | flt _ => obtain ⟨t, rfl⟩ := r; rfl
  | ref _ => cases r; rfl
  | ty _ => cases r; rfl
theorem RelV.inj {x y : V} {u : Value} (r : RelV x u) (q : RelV y u) : x = y := Option.some.inj (r.abs.symm.trans q.abs)
theorem Vals.inj : ∀ {xs ys : List V} {us : List Value}, Vals xs us → Vals ys us → xs = ys
  | _, _, _, .nil, .nil => rfl
  | _, _, _, .cons r t, .cons r' t' => by rw [r.inj r', Vals.inj t t']
section
variable {X : Cx} {pins : List (Addr × Obj)} {σ : St} {H : Hp} {s : Shared} {a : Addr} {xs ys : List V}
theorem SqL.of {K : PySem.W.Frag} (h : H a = some (.lst xs)) : SqL K H a xs := .inl (.inl h)
theorem SqT.of {K : PySem.W.Frag} (h : H a = some (.tup xs)) : SqT K H a xs := .inl (.inl h)
theorem Inv.list (I : Inv X pins σ H s) (h : SqL X.K H a xs) : ∃ its : List Value, Vals xs its ∧ PlainL s.heap a its.toArray ∧ xs.length ≤ sizeLine := by
  rcases h with h | ⟨o, its, n, hk, hc, hd, hs, hz, r⟩
  · obtain ⟨z, its, n, r, e⟩ := h.ok I.hok
    exact ⟨its, r, ⟨_, n, e, rfl, rfl, rfl⟩, z⟩
  · refine ⟨its.toList, r, ⟨o, n, I.kIn a o hk, hc, hd, by simpa using hs⟩, ?_⟩
    have e := r.length
    simp only [Array.length_toList] at e
    omega
theorem Inv.tuple (I : Inv X pins σ H s) (h : SqT X.K H a xs) : ∃ its : List Value, Vals xs its ∧ IsTup s.heap a its.toArray ∧ xs.length ≤ sizeLine := by
  rcases h with h | ⟨o, its, n, hk, hc, hs, hz, r⟩
  · obtain ⟨z, its, r, p⟩ := h.ok I.hok
    exact ⟨its, r, p, z⟩
  · refine ⟨its.toList, r, ⟨o, I.kIn a o hk, hc, n, by simpa using hs⟩, ?_⟩
    have e := r.length
    simp only [Array.length_toList] at e
    omega
theorem Inv.list_inj (I : Inv X pins σ H s) (h : SqL X.K H a xs) (h' : SqL X.K H a ys) : xs = ys := by
  obtain ⟨its, r, ⟨o, n, e, _, _, d⟩, _⟩ := I.list h
  obtain ⟨its', r', ⟨o', n', e', _, _, d'⟩, _⟩ := I.list h'
  rw [e] at e'; cases e'
  rw [d] at d'
  injection d' with d1 _
  have : its = its' := by simpa using congrArg Array.toList d1
  subst this
  exact r.inj r'
end
abbrev Cx.wish (X : Cx) (E : Value → Shared → Prop) : Cx := { X with xe := E }
abbrev Cx.nox (X : Cx) : Cx := X.wish fun _ _ => False
theorem Cx.Ok.wish {X : Cx} (ok : X.Ok) (E : Value → Shared → Prop) : (X.wish E).Ok :=
  ⟨ok.mod, ok.kind, ok.glob, ok.blt, ok.above, ok.inj, ok.has, ok.cab, ok.hd, ok.frames, ok.stk, ok.exf, ok.bs, ok.bsz, ok.noex, ok.exfs, ok.funs, ok.frf⟩
theorem Cx.Ok.unwish {X : Cx} {E : Value → Shared → Prop} (ok : (X.wish E).Ok) : X.Ok :=
  ⟨ok.mod, ok.kind, ok.glob, ok.blt, ok.above, ok.inj, ok.has, ok.cab, ok.hd, ok.frames, ok.stk, ok.exf, ok.bs, ok.bsz, ok.noex, ok.exfs, ok.funs, ok.frf⟩
section
variable {X : Cx} {pins : List (Addr × Obj)} {σ : St} {H : Hp} {s : Shared} {E : Value → Shared → Prop}
theorem Inv.wish (I : Inv X pins σ H s) (E : Value → Shared → Prop) : Inv (X.wish E) pins σ H s := ⟨I.ok.wish E, I.os, I.bare, I.base, I.loc, I.cell, I.free, I.freeC, I.pin, I.hok, I.len⟩
theorem Inv.unwish (I : Inv (X.wish E) pins σ H s) : Inv X pins σ H s := ⟨I.ok.unwish, I.os, I.bare, I.base, I.loc, I.cell, I.free, I.freeC, I.pin, I.hok, I.len⟩
theorem SP.unwish {D : Ends} {f : Flow} {s' : Shared} (h : SP (X.wish E) pins D f s') : SP X pins D f s' := by
  cases f with
  | next => obtain ⟨σ', H', I, q⟩ := h; exact ⟨σ', H', I.unwish, q⟩
  | brk => obtain ⟨σ', H', I, q⟩ := h; exact ⟨σ', H', I.unwish, q⟩
  | cont => obtain ⟨σ', H', I, q⟩ := h; exact ⟨σ', H', I.unwish, q⟩
  | ret u => obtain ⟨v, σ', H', I, r, q⟩ := h; exact ⟨v, σ', H', I.unwish, r, q⟩
theorem PSs.nox {st : List Stmt} {t : TS} (h : PSs X.nox st t) : PSs X st t := fun pins s σ H D I hw =>
  wpAny_mono (h pins s σ H D (I.wish _) hw) (fun _ _ q => q.unwish) fun _ _ z => False.elim z
end
section
variable {X : Cx} {st : Stmt} {rest : List Stmt} {t u : TS} {e : Expr} {te : TE} {pos : Pos}
def tNext : TS := fun D σ H => D.nx σ H
def tSeq (t u : TS) : TS := fun D σ H => t { D with nx := u D } σ H
theorem pss_nil : PSs X [] tNext := fun _ _ σ H _ I h => wpAny_execs_nil ⟨σ, H, I, h⟩
theorem pss_cons (h1 : PS X st t) (h2 : PSs X rest u) : PSs X (st :: rest) (tSeq t u) := by
  intro pins s σ H D I h
  refine wpAny_execs_cons (thn (h1 pins s σ H { D with nx := u D } I h) fun f s1 q => ?_)
  cases f with
  | next =>
    obtain ⟨σ', H', I', q⟩ := q
    exact h2 pins s1 σ' H' D I' q
  | ret v => exact q
  | brk => exact q
  | cont => exact q
theorem pss_one (h1 : PS X st t) : PSs X [st] t := by
  intro pins s σ H D I h
  refine wpAny_execs_cons (thn (h1 pins s σ H D I h) fun f s1 q => ?_)
  cases f with
  | next => exact wpAny_execs_nil q
  | ret v => exact q
  | brk => exact q
  | cont => exact q
def tBreak : TS := fun D σ H => D.bk σ H
def tCont : TS := fun D σ H => D.ct σ H
theorem Inv.quiet {pins : List (Addr × Obj)} {σ : St} {H : Hp} {s : Shared} (I : Inv X pins σ H s) : interactive X.env = false := by simp [interactive, I.ok.kind]
def tDrop (te : TE) : TS := fun D σ H => te σ H fun _ H1 => D.nx σ H1
theorem ps_expr (he : PE X e te) (hs : swapsWith e none pos.line X.env = pure false := by rfl) : PS X (.Expr e pos) (tDrop te) := by
  intro pins s σ H D I h
  exact wpAny_Expr_any (thn (he pins s σ H _ I h) fun v s1 ⟨x, H1, I1, r1, q1⟩ => ⟨σ, H1, I1, q1⟩) I.quiet hs
def tRet (te : TE) : TS := fun D σ H => te σ H D.rt
theorem ps_ret (he : PE X e te) : PS X (.Return (some e) pos) (tRet te) := by
  intro pins s σ H D I h
  exact wpAny_Return_some (thn (he pins s σ H _ I h) fun v s1 ⟨x, H1, I1, r1, q1⟩ => ⟨x, σ, H1, I1, r1, q1⟩)
def tRetN : TS := fun D _ H => D.rt .non H
def tIfS (c : TT) (t u : TS) : TS := fun D σ H => c σ H fun b H1 => if b = true then t D σ H1 else u D σ H1
theorem ps_if {c : Expr} {a b : List Stmt} {tc : TT} (hc : PT X c tc) (ha : PSs X a t) (hb : PSs X b u) : PS X (.If c a b pos) (tIfS tc t u) := by
  intro pins s σ H D I h
  refine wpAny_If (thn (hc pins s σ H _ I h) fun d s1 ⟨H1, I1, q1⟩ => ?_)
  cases d with
  | true => exact ha pins s1 σ H1 D I1 q1
  | false => exact hb pins s1 σ H1 D I1 q1
def tNever : TS := fun _ _ _ => False
end
abbrev TG := V → St → Hp → (St → Hp → Prop) → Prop
abbrev TGs := List V → St → Hp → (St → Hp → Prop) → Prop
def PG (X : Cx) (target : Expr) (t : TG) : Prop :=
  ∀ (pins : List (Addr × Obj)) (s : Shared) (σ : St) (H : Hp) (v : V) (u : Value) (Q : St → Hp → Prop), Inv X pins σ H s → RelV v u → t v σ H Q →
    wpAny (model X.prog X.w) X.A (assign target X.env u) (fun _ s' => ∃ σ' H', Inv X pins σ' H' s' ∧ Q σ' H') X.xe s
def PGs (X : Cx) (ts : List Expr) (t : TGs) : Prop :=
  ∀ (pins : List (Addr × Obj)) (s : Shared) (σ : St) (H : Hp) (vs : List V) (us : List Value) (Q : St → Hp → Prop), Inv X pins σ H s → Vals vs us → t vs σ H Q →
    wpAny (model X.prog X.w) X.A (assignInOrder ((assignEach ts X.env).map (·.2)) us) (fun _ s' => ∃ σ' H', Inv X pins σ' H' s' ∧ Q σ' H') X.xe s
abbrev TSet := V → V → V → Hp → (Hp → Prop) → Prop
def PSet (X : Cx) (t : TSet) : Prop :=
  ∀ (pins : List (Addr × Obj)) (s : Shared) (σ : St) (H : Hp) (o i v : V) (ov iv u : Value) (Q : Hp → Prop), Inv X pins σ H s → RelV o ov → RelV i iv → RelV v u → t o i v H Q →
    wpAny (model X.prog X.w) X.A (setItem ov iv u) (fun _ s' => ∃ H', Inv X pins σ H' s' ∧ Q H') X.xe s
abbrev TIp := V → V → Hp → VK → Prop
def PIp (X : Cx) (op : Operator) (t : TIp) : Prop :=
  ∀ (pins : List (Addr × Obj)) (s : Shared) (σ : St) (H : Hp) (x y : V) (v u : Value) (Q : VK), Inv X pins σ H s → RelV x v → RelV y u → t x y H Q →
    wpAny (model X.prog X.w) X.A (inplaceOp op v u) (EP X pins σ Q) X.xe s
section
variable {X : Cx} {pos : Pos}
def gName (i : Nat) : TG := fun v σ H Q => Q (σ.set i (some v)) H
theorem pg_name {i : Nat} {x : Str} (hN : X.N.Nodup) (hi : X.N[i]? = some x) (hx : Loc X.env.scope x) (hf : X.fn x = true ∨ X.env.scope.names.lookup x = some .local := by first | exact .inl rfl | exact .inr rfl | assumption) : PG X (.Name x pos) (gName i) := by
  intro pins s σ H v u Q I r h
  exact wpAny_assign_Name (store_ok I hN hi hx r (fun s' I' => ⟨_, H, I', h⟩) hf)
def gNil : TGs := fun vs σ H Q => vs = [] ∧ Q σ H
def gCons (t : TG) (u : TGs) : TGs := fun vs σ H Q => ∃ v r, vs = v :: r ∧ t v σ H fun σ' H' => u r σ' H' Q
theorem pgs_nil : PGs X [] gNil := by
  intro pins s σ H vs us Q I r h
  obtain ⟨e, h⟩ := h
  subst e
  cases r
  exact assignInOrder_nil ⟨σ, H, I, h⟩
theorem pgs_cons {e : Expr} {es : List Expr} {t : TG} {u : TGs} (h1 : PG X e t) (h2 : PGs X es u)
    (hs : (assignEach (e :: es) X.env).map (·.2) = assign e X.env :: (assignEach es X.env).map (·.2) := by rfl) : PGs X (e :: es) (gCons t u) := by
  intro pins s σ H vs us Q I r h
  obtain ⟨v, vr, e1, h⟩ := h
  subst e1
  cases r with
  | cons r rr =>
    rw [hs]
    refine assignInOrder_cons (thn (h1 pins s σ H _ _ _ I r h) fun _ s1 ⟨σ1, H1, I1, q1⟩ => ?_)
    exact h2 pins s1 σ1 H1 _ _ Q I1 rr q1
def gTup (K : PySem.W.Frag) (n : Nat) (t : TGs) : TG := fun v σ H Q => ∃ a xs, v = .ref a ∧ SqT K H a xs ∧ xs.length = n ∧ t xs σ H Q
theorem pg_tup {es : List Expr} {k : Nat} {t : TGs} {n : Nat} (hc : X.calm = true) (h : PGs X es t)
    (hn : (assignEach es X.env).length = n := by rfl) (hst : (assignEach es X.env).findIdx? (·.1) = none := by rfl) : PG X (.Tuple es k pos) (gTup X.K n t) := by
  intro pins s σ H v u Q I r hw
  obtain ⟨a, xs, e1, hq, hl, hw⟩ := hw
  subst e1
  cases r
  obtain ⟨its, rv, ht, hz⟩ := I.tuple hq
  refine assign_Tuple_tuple (I.ok.hd hc) ht (by simp [hn, ← hl, rv.length]) hst fun h' hx => ?_
  have I1 : Inv X pins σ H { s with heap := h' } := I.kept (t' := s.toks) fun b o e => hx b o (Nat.ne_of_lt (Heap.lt_size e)) e
  exact h pins _ σ H xs _ Q I1 (by simpa using rv) hw
def gSub (to ti : TE) (t : TSet) : TG := fun v σ H Q => to σ H fun o H1 => ti σ H1 fun i H2 => t o i v H2 fun H3 => Q σ H3
def tAsg (te : TE) (g : TG) : TS := fun D σ H => te σ H fun x H1 => g x σ H1 D.nx
theorem ps_asg {tg e : Expr} {te : TE} {g : TG} (he : PE X e te) (hg : PG X tg g) (hs : swapsWithSole [tg] e pos.line X.env = pure false := by rfl) (hw : swappedStores [tg] e X.env = pure none := by rfl)
    (h1 : (assignEach [tg] X.env).map (·.2) = [assign tg X.env] := by rfl) : PS X (.Assign [tg] e pos) (tAsg te g) := by
  intro pins s σ H D I h
  refine wpAny_Assign_stores (thn (he pins s σ H _ I h) fun v s1 ⟨x, H1, I1, r1, q1⟩ => ?_) hs hw
  rw [h1]
  exact thn (hg pins s1 σ H1 x v _ I1 r1 q1) fun _ s2 q => q
theorem ps_set {i : Nat} {x : Str} {e : Expr} {te : TE} {pos' : Pos} (hN : X.N.Nodup) (hi : X.N[i]? = some x) (hx : Loc X.env.scope x) (he : PE X e te) (hs : swapsWith e (some (.Name x pos')) pos.line X.env = pure false := by rfl) (hf : X.fn x = true ∨ X.env.scope.names.lookup x = some .local := by first | exact .inl rfl | exact .inr rfl | assumption) :
    PS X (.Assign [.Name x pos'] e pos) (tAsg te (gName i)) := by
  intro pins s σ H D I h
  refine wpAny_Assign_Name (thn (he pins s σ H _ I h) fun v s1 ⟨y, H1, I1, r1, q1⟩ => ?_) hs
  exact store_ok I1 hN hi hx r1 (fun s2 I2 => ⟨_, H1, I2, q1⟩) hf
def tPar (i j : Nat) (ta : TA) : TS := fun D σ H => ta σ H fun vs H1 => ∃ v w, vs = [v, w] ∧ D.nx ((σ.set i (some v)).set j (some w)) H1
def tAug (i : Nat) (te : TE) (ti : TIp) : TS := fun D σ H => ∃ x, σ[i]? = some (some x) ∧ te σ H fun y H1 => ti x y H1 fun z H2 => D.nx (σ.set i (some z)) H2
def tAugS (to ti te : TE) (tget : V → V → Hp → VK → Prop) (tip : TIp) (tset : TSet) : TS := fun D σ H => to σ H fun o H1 => ti σ H1 fun i H2 => tget o i H2 fun x H3 => te σ H3 fun y H4 => tip x y H4 fun z H5 => tset o i z H5 fun H6 => D.nx σ H6
def PGet (X : Cx) (t : V → V → Hp → VK → Prop) : Prop :=
  ∀ (pins : List (Addr × Obj)) (s : Shared) (σ : St) (H : Hp) (o i : V) (ov iv : Value) (Q : VK), Inv X pins σ H s → RelV o ov → RelV i iv → t o i H Q →
    wpAny (model X.prog X.w) X.A (getItem ov iv) (EP X pins σ Q) X.xe s
def ipI (f : Int → Int → Int) : TIp := fun x y H Q => ∃ i j, x = .int i ∧ y = .int j ∧ Q (.int (f i j)) H
end
section
variable {X : Cx} {pos : Pos}
def tWhile (c : TT) (tb : TS) : TS := fun D σ H => ∃ W : Nat → St → Hp → Prop, (∃ m, W m σ H) ∧ ∀ m σ H, W m σ H →
  c σ H fun b H1 => if b = true then ∃ N : St → Hp → Prop, (∀ σ' H', N σ' H' → ∃ m', m' < m ∧ W m' σ' H') ∧ tb { D with nx := N, ct := N, bk := D.nx } σ H1 else D.nx σ H1
end
structure It where
  go : Nat → Hp → Prop
  yld : Nat → Hp → V → Hp → Prop
  stop : Nat → Hp → Prop
def FpOk (X : Cx) (pins : List (Addr × Obj)) (H : Hp) (b : Addr) : Prop :=
  H b = none ∧ b ≠ X.env.locals ∧ b ∉ X.fs ∧ (b ∈ X.ex ∨ X.s₀.heap.objs.size ≤ b) ∧ (∀ x c, X.env.cells.lookup x = some c → c ≠ b) ∧ ∀ p ∈ X.pn ++ pins, p.1 ≠ b
theorem Inv.fpOk {X : Cx} {pins : List (Addr × Obj)} {σ : St} {H H' : Hp} {s : Shared} {b : Addr} (I : Inv X pins σ H s) (hb : s.heap.objs.size ≤ b) (hn : H' b = none) : FpOk X pins H' b := by
  refine ⟨hn, Nat.ne_of_gt (Nat.lt_of_lt_of_le I.lt hb), I.nofs hb, .inr (Nat.le_trans I.sz hb), fun x c e z => ?_, fun p hp z => ?_⟩
  · obtain ⟨v, q⟩ := I.cell x c e
    exact absurd (Nat.lt_of_lt_of_le q.lt (by rw [z]; exact hb)) (Nat.lt_irrefl _)
  · exact absurd (Nat.lt_of_lt_of_le (Heap.lt_size (I.pin p hp).1) (by rw [z]; exact hb)) (Nat.lt_irrefl _)
structure Turn (P : Program) (w : World) (K : PySem.W.Frag) (tg : Expr) (J : It) (fp : List Addr) (it : Addr) (tn : Nat → Heap → Prop) : Prop where
  mem : it ∈ fp
  obj : ∀ i h, tn i h → ∀ b ∈ fp, ∃ o, h.get? b = some o ∧ ∀ v, o.data ≠ .cell v
  keep : ∀ i h h', tn i h → (∀ b ∈ fp, ∀ o, h.get? b = some o → h'.get? b = some o) → tn i h'
  item : ∀ (X : Cx), X.prog = P → X.w = w → X.K = K → X.calm = true → ∀ (i : Nat) (pins : List (Addr × Obj)) (s : Shared) (σ : St) (H : Hp) (E : Value → Shared → Prop), Inv X pins σ H s → (∀ b ∈ fp, FpOk X pins H b) → tn i s.heap → J.go i H →
    wpAny (model P w) X.A (pyNext (.ref it)) (fun r s1 => ∃ u, r = some u ∧
      wpAny (model P w) X.A (letOwnedTupleGo tg (.ref it) u) (fun _ s2 => ∃ x H', Inv X pins σ H' s2 ∧ RelV x u ∧ J.yld i H x H' ∧ tn (i + 1) s2.heap ∧ ∀ b ∈ fp, H' b = none) E s1) E s
  done : ∀ (X : Cx), X.prog = P → X.w = w → X.K = K → X.calm = true → ∀ (i : Nat) (pins : List (Addr × Obj)) (s : Shared) (σ : St) (H : Hp) (E : Value → Shared → Prop), Inv X pins σ H s → (∀ b ∈ fp, FpOk X pins H b) → tn i s.heap → J.stop i H →
    wpAny (model P w) X.A (pyNext (.ref it)) (fun r s1 => r = none ∧ Inv X pins σ H s1) E s
  self : ∀ (A : Around) (i : Nat) (s : Shared) (Q : Value → Shared → Prop) (E : Value → Shared → Prop), tn i s.heap → Q (.ref it) s → wpAny (model P w) A (pyIter (.ref it)) Q E s
abbrev TI := St → Hp → (It → Hp → Prop) → Prop
def PIE (X : Cx) (pins : List (Addr × Obj)) (σ : St) (tg : Expr) (R : It → Hp → Prop) (itv : Value) (s2 : Shared) : Prop :=
  ∃ (it : Addr) (fp : List Addr) (tn : Nat → Heap → Prop) (J : It) (H' : Hp), itv = .ref it ∧ Inv X pins σ H' s2 ∧ Turn X.prog X.w X.K tg J fp it tn ∧ tn 0 s2.heap ∧ (∀ b ∈ fp, FpOk X pins H' b) ∧ R J H'
def PI (X : Cx) (tg iter : Expr) (wi : TI) : Prop :=
  ∀ (pins : List (Addr × Obj)) (s : Shared) (σ : St) (H : Hp) (R : It → Hp → Prop), Inv X pins σ H s → wi σ H R →
    wpAny (model X.prog X.w) X.A (eval iter X.env) (fun v s1 => wpAny (model X.prog X.w) X.A (pyIter v) (PIE X pins σ tg R) X.xe s1) X.xe s
theorem go_of {M : Model} {A : Around} {E : Value → Shared → Prop} {s : Shared} {tg : Expr} {it : Addr} {u : Value} {o : Obj} {n : String} {vs : Array Value} {Q : Unit → Shared → Prop} (ho : s.heap.get? it = some o) (hc : o.cls = .type n) (hd : o.data = .fields vs)
    (hn : ["enumerate", "zip", "dict_itemiterator", "dict_reverseitemiterator", "odict_iterator", "itertools.zip_longest", "itertools.pairwise"].contains n = false) (hQ : Q () s) : wpAny M A (letOwnedTupleGo tg (.ref it) u) Q E s := by
  unfold letOwnedTupleGo
  cases tg <;> first
    | exact wpAny_pure hQ
    | (cases u <;> first
        | exact wpAny_pure hQ
        | (refine wpAny_bind (wpAny_load ho ?_)
           rw [hc, hd]
           show wpAny M A (if (["enumerate", "zip", "dict_itemiterator", "dict_reverseitemiterator", "odict_iterator", "itertools.zip_longest", "itertools.pairwise"].contains n && vs[0]? == some (rawInt _)) = true then _ else _) Q E s
           rw [if_neg (by intro h; rw [hn, Bool.false_and] at h; cases h)]
           exact wpAny_pure hQ))
def Itl (K : PySem.W.Frag) (a : Addr) : It :=
  ⟨fun i H => ∃ xs x, SqL K H a xs ∧ xs[i]? = some x, fun i H x H' => H' = H ∧ ∀ xs, SqL K H a xs → xs[i]? = some x, fun i H => ∃ xs, SqL K H a xs ∧ xs.length ≤ i⟩
def Itt (K : PySem.W.Frag) (a : Addr) : It :=
  ⟨fun i H => ∃ xs x, SqT K H a xs ∧ xs[i]? = some x, fun i H x H' => H' = H ∧ ∀ xs, SqT K H a xs → xs[i]? = some x, fun i H => ∃ xs, SqT K H a xs ∧ xs.length ≤ i⟩
def Itr (lo : Int) (n : Nat) : It := ⟨fun i _ => i < n, fun i H x H' => H' = H ∧ x = .int (lo + i), fun i _ => n ≤ i⟩
theorem turn_list {P : Program} {w : World} {K : PySem.W.Frag} {tg : Expr} (a it : Addr) : Turn P w K tg (Itl K a) [it] it (fun i h => h.IsListIter it a i) where
  mem := by simp
  obj := fun i h st b hb => by
    have e : b = it := by simpa using hb
    subst e
    obtain ⟨o, e, c, d⟩ := st
    exact ⟨o, e, fun v z => by rw [d] at z; cases z⟩
  keep := fun i h h' st k => st.at fun o e => k it (by simp) o e
  item := by
    intro X hP hw hK hc i pins s σ H E I hf st hg
    subst hP hw hK
    obtain ⟨xs, x, hq, hx⟩ := hg
    obtain ⟨its, rv, p, hz⟩ := I.list hq
    obtain ⟨u, hu, ru⟩ := rv.get hx
    obtain ⟨f0, f1, f2, f3, f4, f5⟩ := hf it (by simp)
    refine wpAny_pyNext_list_item st p.isList (x := u) (by simpa using hu) fun h' st' sb => ?_
    have I1 : Inv X pins σ H { s with heap := h' } := I.turned (t' := s.toks) (fun b o hb e => (sb.2 b hb).trans e) f0 f1 f3 f4 f5
    obtain ⟨o, e, c, d⟩ := id st'
    exact ⟨u, rfl, go_of (s := { s with heap := h' }) e c d (by decide) ⟨x, H, I1, ru, ⟨rfl, fun ys hy => by rw [I.list_inj hy hq]; exact hx⟩, st', fun b hb => (hf b hb).1⟩⟩
  done := by
    intro X hP hw hK hc i pins s σ H E I hf st hg
    subst hP hw hK
    obtain ⟨xs, hq, hx⟩ := hg
    obtain ⟨its, rv, p, hz⟩ := I.list hq
    obtain ⟨f0, f1, f2, f3, f4, f5⟩ := hf it (by simp)
    have hl := rv.length
    exact wpAny_pyNext_list_end (I.ok.hd hc) st p.isList (by simp; omega) fun h' eb => ⟨rfl, I.turned (t' := s.toks) (fun b o hb e => eb b o hb e) f0 f1 f3 f4 f5⟩
  self := fun _ _ _ _ _ st h => wpAny_pyIter_listiter st h
theorem turn_range {P : Program} {w : World} {K : PySem.W.Frag} {tg : Expr} (it : Addr) (lo : Int) (n : Nat) : Turn P w K tg (Itr lo n) [it] it (fun i h => IsRangeIter h it (lo + (i : Nat) * 1) ((n : Int) - (i : Nat)) 1) where
  mem := by simp
  obj := fun i h st b hb => by
    have e : b = it := by simpa using hb
    subst e
    exact ⟨_, st, fun v z => by
      have z' : Data.fields _ = Data.cell v := z
      cases z'⟩
  keep := fun i h h' st k => k it (by simp) _ st
  item := by
    intro X hP hw hK hc i pins s σ H E I hf st hg
    subst hP hw hK
    obtain ⟨f0, f1, f2, f3, f4, f5⟩ := hf it (by simp)
    have W := Walks.range (prog := X.prog) (w := X.w) (I.ok.hd hc) it lo 1 n
    refine W.item i s _ _ hg st fun v h' tk hv st' kk => ?_
    obtain ⟨t, rfl⟩ := hv
    have I1 : Inv X pins σ H { s with heap := h', toks := tk } := I.turned (fun b o hb e => kk b o (by simpa using hb) e) f0 f1 f3 f4 f5
    refine ⟨_, rfl, go_of (s := { s with heap := h', toks := tk }) (n := "range_iterator") st' rfl rfl (by decide) ⟨.int (lo + i), H, I1, ⟨t, ?_⟩, ⟨rfl, rfl⟩, st', fun b hb => (hf b hb).1⟩⟩
    rw [Int.mul_one]
  done := by
    intro X hP hw hK hc i pins s σ H E I hf st hg
    subst hP hw hK
    obtain ⟨f0, f1, f2, f3, f4, f5⟩ := hf it (by simp)
    exact wpAny_pyNext_range_end (I.ok.hd hc) st (by have : n ≤ i := hg; omega) fun h' eb => ⟨rfl, I.turned (t' := s.toks) (fun b o hb e => eb b o hb e) f0 f1 f3 f4 f5⟩
  self := fun _ _ _ _ _ st h => wpAny_pyIter_rangeiter st h
end L2
namespace L2
open PySem PySem.Spec PyProof.Rows
section
variable {X : Cx} {tg : Expr}
def iList (K : PySem.W.Frag) (tl : TE) : TI := fun σ H R => tl σ H fun x H1 => ∃ a, x = .ref a ∧ (∃ xs, SqL K H1 a xs) ∧ R (Itl K a) H1
def iTup (K : PySem.W.Frag) (tl : TE) : TI := fun σ H R => tl σ H fun x H1 => ∃ a, x = .ref a ∧ (∃ xs, SqT K H1 a xs) ∧ R (Itt K a) H1
theorem pi_list {l : Expr} {tl : TE} (hl : PE X l tl) : PI X tg l (iList X.K tl) := by
  intro pins s σ H R I h
  refine thn (hl pins s σ H _ I h) fun v s1 ⟨x, H1, I1, r1, q1⟩ => ?_
  obtain ⟨a, e, ⟨xs, hq⟩, q⟩ := q1
  subst e
  cases r1
  obtain ⟨its, rv, p, hz⟩ := I1.list hq
  refine wpAny_pyIter_list p.isList ?_
  refine ⟨s1.heap.objs.size, [s1.heap.objs.size], _, _, H1, rfl, I1.kept (t' := s1.toks) fun b o e => Heap.get?_push_of_some _ e, turn_list a _, ⟨_, Heap.get?_push_size _ rfl, rfl, rfl⟩, fun b hb => ?_, q⟩
  have e : b = s1.heap.objs.size := by simpa using hb
  subst e
  exact I1.fpOk (Nat.le_refl _) (I1.hok.fresh (Nat.le_refl _))
theorem range_it {pins : List (Addr × Obj)} {σ : St} {H : Hp} {s : Shared} {R : It → Hp → Prop} {E : Value → Shared → Prop} {lo hi : Int} {t u v : Tok} {tk : Nat} (I : Inv X pins σ H s) (h1 : -(2 ^ 62) ≤ lo) (h2 : lo < 2 ^ 62) (h3 : -(2 ^ 62) ≤ hi) (h4 : hi < 2 ^ 62)
    (q : R (Itr lo (hi - lo).toNat) H) : wpAny (model X.prog X.w) X.A (pyIter (.ref s.heap.objs.size)) (PIE X pins σ tg R) E { s with heap := s.heap.push { cls := .type "range", data := .fields #[.int lo t, .int hi u, .int 1 v] }, toks := tk } := by
  refine wpAny_pyIter_range (IsRange.new ..) (small_one h1 h2 h3 h4) ?_
  have I1 : Inv X pins σ H { s with heap := s.heap.push { cls := .type "range", data := .fields #[.int lo t, .int hi u, .int 1 v] }, toks := tk } := I.kept fun b o e => Heap.get?_push_of_some _ e
  refine ⟨(s.heap.push { cls := .type "range", data := .fields #[.int lo t, .int hi u, .int 1 v] }).objs.size, [(s.heap.push { cls := .type "range", data := .fields #[.int lo t, .int hi u, .int 1 v] }).objs.size], _, _, H, rfl,
    I1.kept (t' := tk) fun b o e => Heap.get?_push_of_some _ e, turn_range _ lo (hi - lo).toNat, ?_, fun b hb => ?_, q⟩
  · have e1 : lo + ((0 : Nat) : Int) * 1 = lo := by simp
    have e2 : (((hi - lo).toNat : Nat) : Int) - ((0 : Nat) : Int) = Builtin.Range.rangeSize lo hi 1 := by rw [rangeSize_one]; split <;> omega
    show IsRangeIter _ _ (lo + ((0 : Nat) : Int) * 1) ((((hi - lo).toNat : Nat) : Int) - ((0 : Nat) : Int)) 1
    rw [e1, e2]
    exact Heap.get?_push_size _ rfl
  · have e : b = (s.heap.push { cls := .type "range", data := .fields #[.int lo t, .int hi u, .int 1 v] }).objs.size := by simpa using hb
    subst e
    exact I1.fpOk (Nat.le_refl _) (I1.hok.fresh (Nat.le_refl _))
def iRng1 (ta : TA) : TI := fun σ H R => ta σ H fun vs H1 => ∃ j : Int, vs = [.int j] ∧ -(2 ^ 62) ≤ j ∧ j < 2 ^ 62 ∧ R (Itr 0 j.toNat) H1
def iRng2 (ta : TA) : TI := fun σ H R => ta σ H fun vs H1 => ∃ i j : Int, vs = [.int i, .int j] ∧ (-(2 ^ 62) ≤ i ∧ i < 2 ^ 62 ∧ -(2 ^ 62) ≤ j ∧ j < 2 ^ 62) ∧ R (Itr i (j - i).toNat) H1
theorem pi_range1 {a : Expr} {ta : TA} {p pos : Pos} (hg : Gl X "range") (hm : X.mg "range" = none) (ha : PA X [a] ta) (hs : starEach [a] X.env = [(false, eval a X.env)] := by rfl) : PI X tg (.Call (.Name "range" p) [a] [] pos) (iRng1 ta) := by
  intro pins s σ H R I h
  refine Call_ (ld_blt I hg hm boot_range (PyProof.Rows.callWith_type1 (thn (ha pos pins s σ H _ I h) fun us s1 ⟨vs, H1, I1, r1, q1⟩ => ?_) hs rfl))
  obtain ⟨j, e, q1, q2, q⟩ := q1
  subst e
  cases r1 with
  | cons r rr =>
    cases rr
    obtain ⟨t, rfl⟩ := r
    exact call_range_1 (range_it I1 (by omega) (by omega) q1 q2 (by simpa using q))
theorem pi_range2 {a b : Expr} {ta : TA} {p pos : Pos} (hg : Gl X "range") (hm : X.mg "range" = none) (ha : PA X [a, b] ta) (hs : starEach [a, b] X.env = [(false, eval a X.env), (false, eval b X.env)] := by rfl) (hs2 : starEach [b] X.env = [(false, eval b X.env)] := by rfl) :
    PI X tg (.Call (.Name "range" p) [a, b] [] pos) (iRng2 ta) := by
  intro pins s σ H R I h
  refine Call_ (ld_blt I hg hm boot_range (PyProof.Rows.callWith_type1 (thn (ha pos pins s σ H _ I h) fun us s1 ⟨vs, H1, I1, r1, q1⟩ => ?_) (by rw [hs, hs2]) (by rw [hs2]; rfl)))
  obtain ⟨i, j, e, ⟨q1, q2, q3, q4⟩, q⟩ := q1
  subst e
  cases r1 with
  | cons r rr =>
    cases rr with
    | cons r' rr =>
      cases rr
      obtain ⟨t, rfl⟩ := r
      obtain ⟨t', rfl⟩ := r'
      exact call_range_2 (range_it I1 q1 q2 q3 q4 q)
def tFor (wi : TI) (g : TG) (tb : TS) : TS := fun D σ H => wi σ H fun J H1 => ∃ W : Nat → Nat → St → Hp → Prop, (∃ m, W 0 m σ H1) ∧ ∀ i m σ H, W i m σ H →
  (J.stop i H ∧ D.nx σ H) ∨ (J.go i H ∧ ∃ N : St → Hp → Prop, (∀ σ' H', N σ' H' → ∃ m', m' < m ∧ W (i + 1) m' σ' H') ∧ ∀ x H', J.yld i H x H' → g x σ H' fun σ2 H2 => tb { D with nx := N, ct := N, bk := D.nx } σ2 H2)
def pinsAt (fp : List Addr) (h : Heap) : List (Addr × Obj) := fp.filterMap fun b => (h.get? b).map fun o => (b, o)
theorem mem_pinsAt {fp : List Addr} {h : Heap} {b : Addr} {o : Obj} (hb : b ∈ fp) (e : h.get? b = some o) : (b, o) ∈ pinsAt fp h := List.mem_filterMap.mpr ⟨b, hb, by rw [e]; rfl⟩
theorem of_pinsAt {fp : List Addr} {h : Heap} {p : Addr × Obj} (hp : p ∈ pinsAt fp h) : p.1 ∈ fp ∧ h.get? p.1 = some p.2 := by
  obtain ⟨b, hb, e⟩ := List.mem_filterMap.mp hp
  cases q : h.get? b with
  | none => rw [q] at e; cases e
  | some o =>
    rw [q] at e
    have e' : (b, o) = p := Option.some.inj e
    subst e'
    exact ⟨hb, q⟩
theorem Inv.pinned {pins : List (Addr × Obj)} {σ : St} {H : Hp} {s : Shared} {fp : List Addr} (I : Inv X pins σ H s) (hf : ∀ b ∈ fp, FpOk X pins H b) (ho : ∀ b ∈ fp, ∃ o, s.heap.get? b = some o ∧ ∀ v, o.data ≠ .cell v) : Inv X (pins ++ pinsAt fp s.heap) σ H s :=
  I.pins_of fun p hp => (List.mem_append.mp hp).elim (fun z => I.pin p (List.mem_append_right _ z)) fun z => by
    obtain ⟨hb, e⟩ := of_pinsAt z
    obtain ⟨f0, f1, f2, _⟩ := hf p.1 hb
    obtain ⟨o, e', d⟩ := ho p.1 hb
    rw [e] at e'; cases e'
    exact ⟨e, f0, f1, f2, d⟩
theorem Inv.unpinned {pins pl : List (Addr × Obj)} {σ : St} {H : Hp} {s : Shared} (I : Inv X (pins ++ pl) σ H s) : Inv X pins σ H s := I.pins_of fun p hp => I.pin p (List.mem_append_right _ (List.mem_append_left _ hp))
theorem ps_for {iter : Expr} {body : List Stmt} {wi : TI} {g : TG} {tb : TS} {pos : Pos} (hp : PassesOwn (model X.prog X.w) X.A X.env X.xe) (hc : X.calm = true) (hi : PI X tg iter wi) (hg : PG X tg g) (hb : PSs X body tb)
    (hs : ∀ x, foldedSetIterable iter X.env x = pure x := by intro _; rfl) : PS X (.For tg iter body [] pos) (tFor wi g tb) := by
  intro pins s σ H D I h
  refine wpAny_For (thn (hi pins s σ H _ I h) fun v s1 h1 => thn h1 fun itv s2 h2 => ?_) hs
  obtain ⟨it, fp, tn, J, H2, e, I2, T, st2, f2, W, ⟨m0, w0⟩, turn⟩ := h2
  subst e
  have stat : ∀ {H' : Hp}, (∀ b ∈ fp, H' b = none) → ∀ b ∈ fp, FpOk X pins H' b := fun hn b hb => ⟨hn b hb, (f2 b hb).2⟩
  refine codeAny_forLoop_any (fun n s' => ∃ i σ' H', Inv X pins σ' H' s' ∧ tn i s'.heap ∧ (∀ b ∈ fp, H' b = none) ∧ W i n σ' H') ?_ m0 ⟨0, σ, H2, I2, st2, fun b hb => (f2 b hb).1, w0⟩
  rintro n s3 ⟨i, σ3, H3, I3, st3, fr3, w3⟩
  rcases turn i n σ3 H3 w3 with ⟨stop, qn⟩ | ⟨go, N, hN, step⟩
  · refine wpAny_passesOwn hp (thn (T.done X rfl rfl rfl hc i pins s3 σ3 H3 X.xe I3 (stat fr3) st3 stop) fun r s4 ⟨hr, I4⟩ => ?_)
    subst hr
    exact wpAny_execs_nil ⟨σ3, H3, I4, qn⟩
  · refine wpAny_passesOwn hp (thn (T.item X rfl rfl rfl hc i pins s3 σ3 H3 X.xe I3 (stat fr3) st3 go) fun r s4 ⟨u, hr, h4⟩ => ?_)
    subst hr
    refine wpAny_passesOwn hp (thn h4 fun _ s5 ⟨x, H5, I5, r5, y5, st5, fr5⟩ => ?_)
    have I5' := I5.pinned (stat fr5) (T.obj _ _ st5)
    refine wpAny_passesOwn hp (thn (hg _ s5 σ3 H5 x u _ I5' r5 (step x H5 y5)) fun _ s6 ⟨σ6, H6, I6, q6⟩ => ?_)
    refine wpAny_passesOwn hp (thn (hb _ s6 σ6 H6 _ I6 q6) fun f s7 q7 => ?_)
    have again : ∀ {σ7 : St} {H7 : Hp}, Inv X (pins ++ pinsAt fp s5.heap) σ7 H7 s7 → N σ7 H7 → ∃ m, m < n ∧ ∃ i σ' H', Inv X pins σ' H' s7 ∧ tn i s7.heap ∧ (∀ b ∈ fp, H' b = none) ∧ W i m σ' H' := fun {σ7 H7} I7 n7 => by
      obtain ⟨m', hm, w7⟩ := hN σ7 H7 n7
      refine ⟨m', hm, i + 1, σ7, H7, I7.unpinned, T.keep _ _ _ st5 fun b hb o e => (I7.pin (b, o) (List.mem_append_right _ (List.mem_append_right _ (mem_pinsAt hb e)))).1, fun b hb => ?_, w7⟩
      obtain ⟨o, e, d⟩ := T.obj _ _ st5 b hb
      exact (I7.pin (b, o) (List.mem_append_right _ (List.mem_append_right _ (mem_pinsAt hb e)))).2.1
    cases f with
    | next => obtain ⟨σ7, H7, I7, n7⟩ := q7; exact again I7 n7
    | cont => obtain ⟨σ7, H7, I7, n7⟩ := q7; exact again I7 n7
    | brk => obtain ⟨σ7, H7, I7, q7⟩ := q7; exact ⟨σ7, H7, I7.unpinned, q7⟩
    | ret v => obtain ⟨x7, σ7, H7, I7, r7, q7⟩ := q7; exact ⟨x7, σ7, H7, I7.unpinned, r7, q7⟩
end
theorem for_list {K : PySem.W.Frag} {a : Addr} {xs : List V} {g : TG} {tb : TS} {D : Ends} {σ : St} {H : Hp} (Pv : Nat → St → Hp → Prop) (h0 : Pv 0 σ H) (hl : ∀ i σ H, i ≤ xs.length → Pv i σ H → SqL K H a xs)
    (hs : ∀ i x σ H, xs[i]? = some x → Pv i σ H → g x σ H fun σ2 H2 => tb { D with nx := Pv (i + 1), ct := Pv (i + 1), bk := D.nx } σ2 H2) (hd : ∀ σ H, Pv xs.length σ H → D.nx σ H) :
    ∃ W : Nat → Nat → St → Hp → Prop, (∃ m, W 0 m σ H) ∧ ∀ i m σ H, W i m σ H →
      ((Itl K a).stop i H ∧ D.nx σ H) ∨ ((Itl K a).go i H ∧ ∃ N : St → Hp → Prop, (∀ σ' H', N σ' H' → ∃ m', m' < m ∧ W (i + 1) m' σ' H') ∧ ∀ x H', (Itl K a).yld i H x H' → g x σ H' fun σ2 H2 => tb { D with nx := N, ct := N, bk := D.nx } σ2 H2) := by
  refine ⟨fun i m σ H => m = xs.length - i ∧ i ≤ xs.length ∧ Pv i σ H, ⟨xs.length, by simp, Nat.zero_le _, h0⟩, ?_⟩
  rintro i m σ H ⟨rfl, hi, p⟩
  have q := hl i σ H hi p
  by_cases hlt : i < xs.length
  · refine .inr ⟨⟨xs, xs[i], q, by simp [hlt]⟩, Pv (i + 1), fun σ' H' p' => ⟨xs.length - (i + 1), by omega, rfl, hlt, p'⟩, fun x H' y => ?_⟩
    obtain ⟨e, y⟩ := y
    subst e
    exact hs i x σ _ (y xs q) p
  · have e : i = xs.length := by omega
    subst e
    exact .inl ⟨⟨xs, q, Nat.le_refl _⟩, hd σ H p⟩
theorem for_range {lo : Int} {n : Nat} {g : TG} {tb : TS} {D : Ends} {σ : St} {H : Hp} (Pv : Nat → St → Hp → Prop) (h0 : Pv 0 σ H)
    (hs : ∀ i σ H, i < n → Pv i σ H → g (.int (lo + i)) σ H fun σ2 H2 => tb { D with nx := Pv (i + 1), ct := Pv (i + 1), bk := D.nx } σ2 H2) (hd : ∀ σ H, Pv n σ H → D.nx σ H) :
    ∃ W : Nat → Nat → St → Hp → Prop, (∃ m, W 0 m σ H) ∧ ∀ i m σ H, W i m σ H →
      ((Itr lo n).stop i H ∧ D.nx σ H) ∨ ((Itr lo n).go i H ∧ ∃ N : St → Hp → Prop, (∀ σ' H', N σ' H' → ∃ m', m' < m ∧ W (i + 1) m' σ' H') ∧ ∀ x H', (Itr lo n).yld i H x H' → g x σ H' fun σ2 H2 => tb { D with nx := N, ct := N, bk := D.nx } σ2 H2) := by
  refine ⟨fun i m σ H => m = n - i ∧ i ≤ n ∧ Pv i σ H, ⟨n, by simp, Nat.zero_le _, h0⟩, ?_⟩
  rintro i m σ H ⟨rfl, hi, p⟩
  by_cases hlt : i < n
  · refine .inr ⟨hlt, Pv (i + 1), fun σ' H' p' => ⟨n - (i + 1), by omega, rfl, hlt, p'⟩, fun x H' y => ?_⟩
    obtain ⟨e, y⟩ := y
    subst e y
    exact hs i σ _ hlt p
  · have e : i = n := by omega
    subst e
    exact .inl ⟨Nat.le_refl _, hd σ H p⟩
end L2
namespace L2
open PySem PySem.Spec PyProof.Rows
abbrev R2 := V → V → Hp → VK → Prop
def OpR (X : Cx) (f : Value → Value → Sem Value) (r : R2) : Prop :=
  ∀ (pins : List (Addr × Obj)) (s : Shared) (σ : St) (H : Hp) (x y : V) (v u : Value) (Q : VK), Inv X pins σ H s → RelV x v → RelV y u → r x y H Q →
    wpAny (model X.prog X.w) X.A (f v u) (EP X pins σ Q) X.xe s
def UnR (X : Cx) (f : Value → Sem Value) (r : V → Hp → VK → Prop) : Prop :=
  ∀ (pins : List (Addr × Obj)) (s : Shared) (σ : St) (H : Hp) (x : V) (v : Value) (Q : VK), Inv X pins σ H s → RelV x v → r x H Q →
    wpAny (model X.prog X.w) X.A (f v) (EP X pins σ Q) X.xe s
def CallR (X : Cx) (f : Value) (r : List V → Hp → VK → Prop) : Prop :=
  ∀ (pins : List (Addr × Obj)) (s : Shared) (σ : St) (H : Hp) (xs : List V) (us : List Value) (Q : VK), Inv X pins σ H s → Vals xs us → r xs H Q →
    wpAny (model X.prog X.w) X.A (call f us) (EP X pins σ Q) X.xe s
def TruR (X : Cx) (r : V → Hp → (Bool → Hp → Prop) → Prop) : Prop :=
  ∀ (pins : List (Addr × Obj)) (s : Shared) (σ : St) (H : Hp) (x : V) (v : Value) (Q : Bool → Hp → Prop), Inv X pins σ H s → RelV x v → r x H Q →
    wpAny (model X.prog X.w) X.A (truthy v) (TP X pins σ Q) X.xe s
def tOp (r : R2) (ta tb : TE) : TE := fun σ H Q => ta σ H fun x H1 => tb σ H1 fun y H2 => r x y H2 Q
def tUn (r : V → Hp → VK → Prop) (ta : TE) : TE := fun σ H Q => ta σ H fun x H1 => r x H1 Q
def rI (C : Int → Int → Prop) (g : Int → Int → V) : R2 := fun x y H Q => ∃ i j, x = .int i ∧ y = .int j ∧ C i j ∧ Q (g i j) H
def rI0 (g : Int → Int → V) : R2 := fun x y H Q => ∃ i j, x = .int i ∧ y = .int j ∧ Q (g i j) H
def rU (g : Int → V) : V → Hp → VK → Prop := fun x H Q => ∃ i, x = .int i ∧ Q (g i) H
section
variable {X : Cx} {a b c : Expr} {ta tb tc : TE} {pos : Pos}
theorem binT (ha : PE X a ta) (hb : PE X b tb) {pins : List (Addr × Obj)} {s : Shared} {σ : St} {H : Hp} {R : V → V → Hp → Prop} (I : Inv X pins σ H s)
    (h : ta σ H fun x H1 => tb σ H1 fun y H2 => R x y H2) {Q : Value → Shared → Prop} {f : Value → Value → Sem Value}
    (hf : ∀ v u s2 x y H2, Inv X pins σ H2 s2 → RelV x v → RelV y u → R x y H2 → wpAny (model X.prog X.w) X.A (f v u) Q X.xe s2) :
    wpAny (model X.prog X.w) X.A (eval a X.env) (fun v s₁ => wpAny (model X.prog X.w) X.A (eval b X.env) (fun u s₂ => wpAny (model X.prog X.w) X.A (f v u) Q X.xe s₂) X.xe s₁) X.xe s := by
  refine thn (ha pins s σ H _ I h) fun v s1 ⟨x, H1, I1, r1, q1⟩ => ?_
  refine thn (hb pins s1 σ H1 _ I1 q1) fun u s2 ⟨y, H2, I2, r2, q2⟩ => ?_
  exact hf v u s2 x y H2 I2 r1 r2 q2
theorem pe_op {op : Operator} {r : R2} (ho : OpR X (binaryOp op) r) (ha : PE X a ta) (hb : PE X b tb) : PE X (.BinOp a op b pos) (tOp r ta tb) := by
  intro pins s σ H Q I h
  exact wpAny_BinOp (binT ha hb I h fun v u s2 x y H2 I2 rx ry q => ho pins s2 σ H2 x y v u Q I2 rx ry q)
theorem opI {f : Value → Value → Sem Value} {C : Int → Int → Prop} {g : Int → Int → Int}
    (rule : ∀ (i j : Int) (t u : Tok) (s : Shared) (Q : Value → Shared → Prop) (E : Value → Shared → Prop), C i j → Q (.int (g i j) s.toks) { s with toks := s.toks + 1 } → wpAny (model X.prog X.w) X.A (f (.int i t) (.int j u)) Q E s) :
    OpR X f (rI C fun i j => .int (g i j)) := by
  intro pins s σ H x y v u Q I rx ry h
  obtain ⟨i, j, rfl, rfl, hc, q⟩ := h
  obtain ⟨t, rfl⟩ := rx
  obtain ⟨t', rfl⟩ := ry
  exact rule i j t t' s _ _ hc ⟨.int (g i j), H, I.tok _, ⟨_, rfl⟩, q⟩
theorem opI0 {f : Value → Value → Sem Value} {g : Int → Int → Int}
    (rule : ∀ (i j : Int) (t u : Tok) (s : Shared) (Q : Value → Shared → Prop) (E : Value → Shared → Prop), Q (.int (g i j) s.toks) { s with toks := s.toks + 1 } → wpAny (model X.prog X.w) X.A (f (.int i t) (.int j u)) Q E s) :
    OpR X f (rI0 fun i j => .int (g i j)) := by
  intro pins s σ H x y v u Q I rx ry h
  obtain ⟨i, j, rfl, rfl, q⟩ := h
  obtain ⟨t, rfl⟩ := rx
  obtain ⟨t', rfl⟩ := ry
  exact rule i j t t' s _ _ ⟨.int (g i j), H, I.tok _, ⟨_, rfl⟩, q⟩
theorem opB0 {f : Value → Value → Sem Value} {g : Int → Int → Bool}
    (rule : ∀ (i j : Int) (t u : Tok) (s : Shared) (Q : Value → Shared → Prop) (E : Value → Shared → Prop), Q (.bool (g i j)) s → wpAny (model X.prog X.w) X.A (f (.int i t) (.int j u)) Q E s) :
    OpR X f (rI0 fun i j => .bl (g i j)) := by
  intro pins s σ H x y v u Q I rx ry h
  obtain ⟨i, j, rfl, rfl, q⟩ := h
  obtain ⟨t, rfl⟩ := rx
  obtain ⟨t', rfl⟩ := ry
  exact rule i j t t' s _ _ ⟨.bl (g i j), H, I, rfl, q⟩
def CDiv (i j : Int) : Prop := 0 < j ∧ j < 1073741824
def CDivN (i j : Int) : Prop := j ≠ 0 ∧ j.natAbs < 1073741824
def CPow (i j : Int) : Prop := 0 ≤ j ∧ j ≤ 1000000 ∧ i.natAbs < 2 ^ 64
def CMul (i j : Int) : Prop := (-(2 ^ 64) < i ∧ i < 2 ^ 64) ∨ (-(2 ^ 64) < j ∧ j < 2 ^ 64)
theorem CMul.ok {i j : Int} (h : CMul i j) : IntMulOk i j := by
  rcases h with ⟨h1, h2⟩ | ⟨h1, h2⟩
  · exact .of_left (intBits_le_64 h1 h2)
  · exact .of_right (intBits_le_64 h1 h2)
theorem op_add : OpR X (binaryOp .Add) (rI0 fun i j => .int (i + j)) := opI0 fun _ _ _ _ _ _ _ q => add_int q
theorem op_sub : OpR X (binaryOp .Sub) (rI0 fun i j => .int (i - j)) := opI0 fun _ _ _ _ _ _ _ q => sub_int q
theorem op_mod : OpR X (binaryOp .Mod) (rI (fun _ j => 0 < j) fun i j => .int (i % j)) := opI fun i j _ _ _ _ _ hc q => by
  have h1 : (0 : Int) < j := hc
  exact mod_int' (by omega) (by rw [Int.fmod_eq_emod_of_nonneg i (by omega)]; exact q)
end
def scal : V → V → Bool
  | .non, .non => true | .non, .int _ => true | .int _, .non => true | .non, .bl _ => true | .bl _, .non => true | .non, .str _ => true | .str _, .non => true
  | .int _, .int _ => true | .bl _, .bl _ => true | .str _, .str _ => true | .byt _, .byt _ => true
  | .int _, .str _ => true | .str _, .int _ => true | .bl _, .str _ => true | .str _, .bl _ => true
  | _, _ => false
def rEq : R2 := fun x y H Q => scal x y = true ∧ Q (.bl (decide (x = y))) H
def rNe : R2 := fun x y H Q => scal x y = true ∧ Q (.bl (!decide (x = y))) H
theorem dec_int {i j : Int} : decide (V.int i = V.int j) = (i == j) := by
  rw [Bool.eq_iff_iff]
  simp
theorem dec_bl {i j : Bool} : decide (V.bl i = V.bl j) = (i == j) := by
  rw [Bool.eq_iff_iff]
  simp
theorem dec_str {i j : Str} : decide (V.str i = V.str j) = (i == j) := by
  rw [Bool.eq_iff_iff]
  simp
theorem dec_byt {i j : Array UInt8} : decide (V.byt i = V.byt j) = (i.toList == j.toList) := by
  rw [Bool.eq_iff_iff]
  cases i
  cases j
  simp
section
variable {X : Cx} {a b c : Expr} {ta tb tc : TE} {pos : Pos}
theorem fin_bl {pins : List (Addr × Obj)} {σ : St} {H : Hp} {s : Shared} {Q : VK} {k k' : Bool} (I : Inv X pins σ H s) (q : Q (.bl k) H) (e : k = k') : EP X pins σ Q (.bool k') s := by
  subst e
  exact ⟨.bl k, H, I, rfl, q⟩
theorem op_eq : OpR X (compareOp .Eq) rEq := by
  intro pins s σ H x y v u Q I rx ry h
  obtain ⟨hs, q⟩ := h
  cases x with
  | non =>
    cases rx
    cases y with
    | non => cases ry; exact PySem.EqNone.eq_none_none (fin_bl I q (by simp))
    | bl j => cases ry; exact PySem.EqNone.eq_none_bool (fin_bl I q (by simp))
    | int j => obtain ⟨t', rfl⟩ := ry; exact PySem.EqNone.eq_none_int (fin_bl I q (by simp))
    | str j => obtain ⟨t', rfl⟩ := ry; exact PySem.EqNone.eq_none_str (fin_bl I q (by simp))
    | _ => exact absurd (show false = true from hs) Bool.false_ne_true
  | bl i =>
    cases rx
    cases y with
    | non => cases ry; exact PySem.EqNone.eq_bool_none (fin_bl I q (by simp))
    | bl j => cases ry; exact eq_bool (fin_bl I q dec_bl)
    | str j => obtain ⟨t', rfl⟩ := ry; exact PySem.EqMixed.eq_bool_str (fin_bl I q (by simp))
    | _ => exact absurd (show false = true from hs) Bool.false_ne_true
  | int i =>
    obtain ⟨t, rfl⟩ := rx
    cases y with
    | non => cases ry; exact PySem.EqNone.eq_int_none (fin_bl I q (by simp))
    | int j => obtain ⟨t', rfl⟩ := ry; exact eq_int (fin_bl I q dec_int)
    | str j => obtain ⟨t', rfl⟩ := ry; exact PySem.EqMixed.eq_int_str (fin_bl I q (by simp))
    | _ => exact absurd (show false = true from hs) Bool.false_ne_true
  | str i =>
    obtain ⟨t, rfl⟩ := rx
    cases y with
    | non => cases ry; exact PySem.EqNone.eq_str_none (fin_bl I q (by simp))
    | bl j => cases ry; exact PySem.EqMixed.eq_str_bool (fin_bl I q (by simp))
    | int j => obtain ⟨t', rfl⟩ := ry; exact PySem.EqMixed.eq_str_int (fin_bl I q (by simp))
    | str j => obtain ⟨t', rfl⟩ := ry; exact eq_str (fin_bl I q dec_str)
    | _ => exact absurd (show false = true from hs) Bool.false_ne_true
  | byt i =>
    obtain ⟨t, rfl⟩ := rx
    cases y with
    | byt j => obtain ⟨t', rfl⟩ := ry; exact PySem.W.eq_bytes (fin_bl I q dec_byt)
    | _ => exact absurd (show false = true from hs) Bool.false_ne_true
  | _ => cases y <;> exact absurd (show false = true from hs) Bool.false_ne_true
theorem op_ne : OpR X (compareOp .NotEq) rNe := by
  intro pins s σ H x y v u Q I rx ry h
  obtain ⟨hs, q⟩ := h
  cases x with
  | non =>
    cases rx
    cases y with
    | non => cases ry; exact PySem.EqNone.ne_none_none (fin_bl I q (by simp))
    | bl j => cases ry; exact PySem.EqNone.ne_none_bool (fin_bl I q (by simp))
    | int j => obtain ⟨t', rfl⟩ := ry; exact PySem.EqNone.ne_none_int (fin_bl I q (by simp))
    | str j => obtain ⟨t', rfl⟩ := ry; exact PySem.EqNone.ne_none_str (fin_bl I q (by simp))
    | _ => exact absurd (show false = true from hs) Bool.false_ne_true
  | bl i =>
    cases rx
    cases y with
    | non => cases ry; exact PySem.EqNone.ne_bool_none (fin_bl I q (by simp))
    | bl j => cases ry; exact ne_bool (fin_bl I q (congrArg not dec_bl))
    | str j => obtain ⟨t', rfl⟩ := ry; exact PySem.EqMixed.ne_bool_str (fin_bl I q (by simp))
    | _ => exact absurd (show false = true from hs) Bool.false_ne_true
  | int i =>
    obtain ⟨t, rfl⟩ := rx
    cases y with
    | non => cases ry; exact PySem.EqNone.ne_int_none (fin_bl I q (by simp))
    | int j => obtain ⟨t', rfl⟩ := ry; exact ne_int (fin_bl I q (congrArg not dec_int))
    | str j => obtain ⟨t', rfl⟩ := ry; exact PySem.EqMixed.ne_int_str (fin_bl I q (by simp))
    | _ => exact absurd (show false = true from hs) Bool.false_ne_true
  | str i =>
    obtain ⟨t, rfl⟩ := rx
    cases y with
    | non => cases ry; exact PySem.EqNone.ne_str_none (fin_bl I q (by simp))
    | bl j => cases ry; exact PySem.EqMixed.ne_str_bool (fin_bl I q (by simp))
    | int j => obtain ⟨t', rfl⟩ := ry; exact PySem.EqMixed.ne_str_int (fin_bl I q (by simp))
    | str j => obtain ⟨t', rfl⟩ := ry; exact ne_str (fin_bl I q (congrArg not dec_str))
    | _ => exact absurd (show false = true from hs) Bool.false_ne_true
  | byt i =>
    obtain ⟨t, rfl⟩ := rx
    cases y with
    | byt j => obtain ⟨t', rfl⟩ := ry; exact PySem.W.ne_bytes (fin_bl I q (congrArg not dec_byt))
    | _ => exact absurd (show false = true from hs) Bool.false_ne_true
  | _ => cases y <;> exact absurd (show false = true from hs) Bool.false_ne_true
theorem op_lt : OpR X (compareOp .Lt) (rI0 fun i j => .bl (decide (i < j))) := opB0 fun _ _ _ _ _ _ _ q => lt_int q
theorem op_le : OpR X (compareOp .LtE) (rI0 fun i j => .bl (decide (i ≤ j))) := opB0 fun _ _ _ _ _ _ _ q => le_int q
theorem op_gt : OpR X (compareOp .Gt) (rI0 fun i j => .bl (decide (j < i))) := opB0 fun _ _ _ _ _ _ _ q => gt_int q
theorem op_in_str : OpR X (compareOp .In) (fun x y H Q => ∃ i j, x = .str i ∧ y = .str j ∧ Q (.bl (!(Builtin.Str.occurrences j i 0 j.length 1).isEmpty)) H) := by
  intro pins s σ H x y v u Q I rx ry h
  obtain ⟨i, j, rfl, rfl, q⟩ := h
  obtain ⟨t, rfl⟩ := rx
  obtain ⟨t', rfl⟩ := ry
  exact in_str (fin_bl I q rfl)
theorem op_notin_str : OpR X (compareOp .NotIn) (fun x y H Q => ∃ i j, x = .str i ∧ y = .str j ∧ Q (.bl (!(!(Builtin.Str.occurrences j i 0 j.length 1).isEmpty))) H) := by
  intro pins s σ H x y v u Q I rx ry h
  obtain ⟨i, j, rfl, rfl, q⟩ := h
  obtain ⟨t, rfl⟩ := rx
  obtain ⟨t', rfl⟩ := ry
  exact notIn_str (fin_bl I q rfl)
def isObj : HO → Bool
  | .lst _ => true
  | .ins _ _ _ => true
  | _ => false
theorem nomark (b : Expr) {op : CmpOp} (h : op ≠ .In := by decide) (h2 : op ≠ .NotIn := by decide) : behindInMarks op b = false := by
  have e1 : (op == CmpOp.In) = false := by cases op <;> first | rfl | exact absurd rfl h
  have e2 : (op == CmpOp.NotIn) = false := by cases op <;> first | rfl | exact absurd rfl h2
  cases b <;> simp [behindInMarks, e1, e2]
theorem pe_cmpR {op : CmpOp} {r : R2} (ho : OpR X (compareOp op) r) (ha : PE X a ta) (hb : PE X b tb) (hm : behindInMarks op b = false) : PE X (.Compare a [op] [b] pos) (tOp r ta tb) := by
  intro pins s σ H Q I h
  exact wpAny_Compare1 (binT ha hb I h fun v u s2 x y H2 I2 rx ry q => ho pins s2 σ H2 x y v u Q I2 rx ry q) hm
def tTest (t : TE) : TT := fun σ H Q => t σ H fun x H' => ∃ k, x = .bl k ∧ Q k H'
theorem pt_cmpR {op : CmpOp} {r : R2} (ho : OpR X (compareOp op) r) (ha : PE X a ta) (hb : PE X b tb) (hm : behindInMarks op b = false) : PT X (.Compare a [op] [b] pos) (tTest (tOp r ta tb)) := by
  intro pins s σ H Q I h
  refine wpAny_isTrue_Compare1 (thn (ha pins s σ H _ I h) fun v s1 ⟨x, H1, I1, r1, q1⟩ => thn (hb pins s1 σ H1 _ I1 q1) fun u s2 ⟨y, H2, I2, r2, q2⟩ =>
    thn (ho pins s2 σ H2 x y v u _ I2 r1 r2 q2) fun c s3 ⟨z, H3, I3, r3, k, e, q3⟩ => ?_) hm
  subst e
  cases r3
  exact wpAny_truthy_bool ⟨H3, I3, q3⟩
def tChain (r r' : R2) (ta tb tc : TE) : TE := fun σ H Q => ta σ H fun x H1 => tb σ H1 fun y H2 => r x y H2 fun z H3 => ∃ k, z = .bl k ∧
  (if k = true then tc σ H3 fun w' H4 => r' y w' H4 Q else Q (.bl false) H3)
theorem pt_chain {op op' : CmpOp} {r r' : R2} (ho : OpR X (compareOp op) r) (ho' : OpR X (compareOp op') r') (ha : PE X a ta) (hb : PE X b tb) (hc : PE X c tc)
    (hm : lastMarks [op, op'] [b, c] = false := by with_unfolding_all rfl) : PT X (.Compare a [op, op'] [b, c] pos) (tTest (tChain r r' ta tb tc)) := by
  intro pins s σ H Q I h
  refine isTrue_chain (thn (ha pins s σ H _ I h) fun v s1 ⟨x, H1, I1, r1, q1⟩ => test_link (thn (hb pins s1 σ H1 _ I1 q1) fun u s2 ⟨y, H2, I2, r2, q2⟩ =>
    thn (ho pins s2 σ H2 x y v u _ I2 r1 r2 q2) fun d s3 ⟨z, H3, I3, r3, k, e, q3⟩ => ?_)) hm
  subst e
  cases r3
  refine wpAny_truthy_bool ?_
  cases k with
  | false =>
    obtain ⟨k', e', q'⟩ := q3
    cases e'
    exact ite_ff ⟨H3, I3, q'⟩
  | true =>
    refine ite_tt (test_last (thn (hc pins s3 σ H3 _ I3 q3) fun w' s4 ⟨z', H4, I4, r4, q4⟩ => thn (ho' pins s4 σ H4 y z' u w' _ I4 r2 r4 q4) fun d' s5 ⟨z2, H5, I5, r5, k2, e2, q5⟩ => ?_))
    subst e2
    cases r5
    exact wpAny_truthy_bool ⟨H5, I5, q5⟩
def TruV (K : PySem.W.Frag) (x : V) (H : Hp) (k : Bool) : Prop :=
  match x with
  | .non => k = false
  | .bl b => k = b
  | .int i => k = (i != 0)
  | .str y => y.length ≤ sizeLine ∧ k = ((y.length : Int) != 0)
  | .byt y => y.size ≤ sizeLine ∧ k = ((y.size : Int) != 0)
  | .ref p => (∃ xs, SqL K H p xs ∧ k = !xs.isEmpty) ∨ (∃ xs, SqT K H p xs ∧ k = !xs.isEmpty) ∨ ∃ kvs, H p = some (.dK kvs) ∧ k = !kvs.isEmpty
  | _ => False
theorem line63 : (sizeLine : Nat) < 2 ^ 63 := by rw [sizeLine_eq]; decide
theorem op_add_str : OpR X (binaryOp .Add) (fun x y H Q => ∃ i j, x = .str i ∧ y = .str j ∧ i.length + j.length ≤ sizeLine ∧ Q (.str (i ++ j)) H) := by
  intro pins s σ H x y v u Q I rx ry h
  obtain ⟨i, j, rfl, rfl, hz, q⟩ := h
  obtain ⟨t, rfl⟩ := rx
  obtain ⟨t', rfl⟩ := ry
  exact add_str (fun t' tk => ⟨.str (i ++ j), H, I.tok _, ⟨_, rfl⟩, q⟩) hz
def PlainIxT (b : Expr) : Prop := ∀ o i, subscripted b false o i = operate [o, i] (getItem o i)
theorem vals1 {x : V} {us : List Value} (r : Vals [x] us) : ∃ u, us = [u] ∧ RelV x u := by
  cases r with
  | cons r1 r2 => cases r2; exact ⟨_, rfl, r1⟩
theorem vals2 {x y : V} {us : List Value} (r : Vals [x, y] us) : ∃ u w', us = [u, w'] ∧ RelV x u ∧ RelV y w' := by
  cases r with
  | cons r1 r2 =>
    cases r2 with
    | cons r3 r4 => cases r4; exact ⟨_, _, rfl, r1, r3⟩
theorem call_min2 (hc : X.calm = true) : CallR X (.builtin "min") (fun xs H Q => ∃ i j, xs = [.int i, .int j] ∧ Q (.int (if j < i then j else i)) H) := by
  intro pins s σ H xs us Q I r h
  obtain ⟨i, j, rfl, q⟩ := h
  obtain ⟨u, w', rfl, ⟨t, rfl⟩, ⟨t', rfl⟩⟩ := vals2 r
  refine min_two_ints (I.ok.hd hc) fun h' tk k => ⟨_, H, I.kept k, ?_, q⟩
  by_cases hj : j < i
  · rw [if_pos hj, if_pos hj]; exact ⟨_, rfl⟩
  · rw [if_neg hj, if_neg hj]; exact ⟨_, rfl⟩
def LenV (K : PySem.W.Frag) (x : V) (H : Hp) (n : Nat) : Prop :=
  match x with
  | .str y => y.length ≤ sizeLine ∧ n = y.length
  | .byt y => y.size ≤ sizeLine ∧ n = y.size
  | .ref p => (∃ xs, SqL K H p xs ∧ n = xs.length) ∨ ∃ xs, SqT K H p xs ∧ n = xs.length
  | _ => False
end
end L2
namespace L2
open PySem PySem.Spec PyProof.Rows
structure ObjM (h : Heap) (x dx C : Addr) (mA : Str → Option Value) : Prop where
  obj : h.get? x = some (PySem.W.instObj C dx)
  ns : h.Ns1 dx mA
  ne : dx ≠ x
theorem lookIn_ns {h : Heap} {dx : Addr} {mA : Str → Option Value} (n : h.Ns1 dx mA) : ∃ od, h.get? dx = some od ∧ ∀ name, PySem.W.lookIn name od = some (mA name) := by
  obtain ⟨o, es, ep, ho, hd, hk, _, hm⟩ := n
  refine ⟨o, ho, fun name => ?_⟩
  have e := hm name
  unfold nsFind findBy at e
  rw [← Array.find?_toList] at e
  unfold PySem.W.lookIn
  rw [hd]
  dsimp only
  split
  · rename_i y q
    rw [q] at e
    exact congrArg some e
  · rename_i q
    rw [q] at e
    have a : es.toList.any (·.refKey) = false := by
      rw [List.any_eq_false]
      intro y hy
      obtain ⟨z, t, hkey⟩ := hk y (Array.mem_toList_iff.mp hy)
      simp [DictEntry.refKey, hkey]
    have a' : ¬ es.toList.any (·.refKey) = true := by rw [a]; exact Bool.false_ne_true
    rw [if_neg a']
    exact congrArg some e
theorem ObjM.look {h : Heap} {x dx C : Addr} {mA : Str → Option Value} (I : ObjM h x dx C mA) : ∃ od, PySem.W.InstAt h x (PySem.W.instObj C dx) C (some od) ∧ ∀ name, PySem.W.lookIn name od = some (mA name) :=
  let ⟨od, ho, hl⟩ := lookIn_ns I.ns
  ⟨od, ⟨I.obj, rfl, rfl, ho⟩, hl⟩
section
variable {prog : Program} {w : World} {A : Around} {E : Value → Shared → Prop} {s : Shared} {K : PySem.W.Frag} {x dx C f : Addr} {mA : Str → Option Value} {name : Str} {v : Value}
end
def putF (f : Str) (v : V) : List (Str × V) → List (Str × V)
  | [] => [(f, v)]
  | (g, x) :: r => if g = f then (g, v) :: r else (g, x) :: putF f v r
section
variable {P : Program} {w : World} {H H' : Hp} {h h' : Heap} {a C dx : Addr} {fs fs' : List (Str × V)}
theorem ins_get (hok : HOk P w H h) (e : H a = some (.ins C dx fs)) : ∃ mA, ObjM h a dx C mA ∧ (∀ f, RelO (fs.lookup f) (mA f)) ∧ PySem.Within mA (fs.map (·.1)) ∧ fs.length ≤ 1000 ∧ H dx = some (.own a) := by
  obtain ⟨d, z, ne, ob, mA, n, r, q⟩ := (show ObjOk P w H h a (.ins C dx fs) from hok a _ e)
  exact ⟨mA, ⟨ob, n, ne⟩, r, q, z, d⟩
end
structure Cls (K : PySem.W.Frag) (C : Addr) : Prop where
  pg : PySem.W.plainGet K C Str.empty = true
  hd : PySem.W.hasDictIn K C = true
  po : PySem.W.plainOver K C = true
  sa : PySem.W.findIn K (.ref C) "__setattr__" = some (some (.builtin "object.__setattr__"))
theorem Cls.get {K : PySem.W.Frag} {C : Addr} (c : Cls K C) (f : Str) : PySem.W.plainGet K C f = true := c.pg
def NoAttr (K : PySem.W.Frag) (C : Addr) (f : Str) : Prop := PySem.W.findIn K (.ref C) f = some none
structure Con (K : PySem.W.Frag) (C : Addr) (f : Str) (v : V) (u : Value) : Prop where
  at_ : PySem.W.findIn K (.ref C) f = some (some u)
  rel : RelV v u
  get : PySem.W.specialIn K u "__get__" = some none
  cp : PySem.W.copiedNames.contains f = false
structure Meth (K : PySem.W.Frag) (C : Addr) (m : Str) (f : Addr) : Prop where
  at_ : PySem.W.findIn K (.ref C) m = some (some (.ref f))
  fn : PySem.W.isFn K (.ref f) = true
  kp : PySem.W.keepIn K (.ref f) = true
section
variable {X : Cx} {pins : List (Addr × Obj)} {σ : St} {H : Hp} {s : Shared} {a C dx : Addr} {fs : List (Str × V)} {f : Str} {v : V} {A : Around} {E : Value → Shared → Prop}
end
def tFld (K : PySem.W.Frag) (ta : TE) (f : Str) : TE := fun σ H Q => ta σ H fun x H1 => ∃ a C dx fs v, x = .ref a ∧ H1 a = some (.ins C dx fs) ∧ Cls K C ∧ NoAttr K C f ∧ fs.lookup f = some v ∧ Q v H1
def tCon (K : PySem.W.Frag) (ta : TE) (f : Str) : TE := fun σ H Q => ta σ H fun x H1 => ∃ a C dx fs v u, x = .ref a ∧ H1 a = some (.ins C dx fs) ∧ Cls K C ∧ Con K C f v u ∧ fs.lookup f = none ∧ Q v H1
def sFld (K : PySem.W.Frag) (ta tv : TE) (f : Str) : TS := fun D σ H => tv σ H fun y H1 => ta σ H1 fun x H2 => ∃ a C dx fs, x = .ref a ∧ H2 a = some (.ins C dx fs) ∧ Cls K C ∧ NoAttr K C f ∧ fs.length < 1000 ∧
  D.nx σ (upd H2 a (.ins C dx (putF f y fs)))
def InOp (X : Cx) (op : Operator) (rd : V → V → Hp → VK → Prop) : Prop :=
  ∀ (pins : List (Addr × Obj)) (s : Shared) (σ : St) (H : Hp) (x y : V) (u v : Value) (Q : VK), Inv X pins σ H s → RelV x u → RelV y v → rd x y H Q → wpAny (model X.prog X.w) X.A (inplaceOp op u v) (EP X pins σ Q) X.xe s
def sFldAug (K : PySem.W.Frag) (ta tv : TE) (rd : V → V → Hp → VK → Prop) (f : Str) : TS := fun D σ H => ta σ H fun x H1 => ∃ a C dx fs v, x = .ref a ∧ H1 a = some (.ins C dx fs) ∧ Cls K C ∧ NoAttr K C f ∧ fs.lookup f = some v ∧
  tv σ H1 fun y H2 => rd v y H2 fun z H3 => ∃ dx' fs', H3 a = some (.ins C dx' fs') ∧ fs'.length < 1000 ∧ D.nx σ (upd H3 a (.ins C dx' (putF f z fs')))
section
variable {X : Cx} {o e value : Expr} {f : Str} {pos pos' tpos : Pos} {ta tv : TE}
def rAdd : V → V → Hp → VK → Prop := fun x y H Q => ∃ i j, x = .int i ∧ y = .int j ∧ Q (.int (i + j)) H
def rSub : V → V → Hp → VK → Prop := fun x y H Q => ∃ i j, x = .int i ∧ y = .int j ∧ Q (.int (i - j)) H
end
section
variable {X : Cx} {pins : List (Addr × Obj)} {σ : St} {H : Hp} {s : Shared} {A : Around} {E : Value → Shared → Prop} {Q : Value → Shared → Prop} {c : Value} {b : Bool}
inductive TyOf (K : PySem.W.Frag) (H : Hp) : V → Value → Prop where
  | non : TyOf K H .non (.type "NoneType")
  | bl (x : Bool) : TyOf K H (.bl x) (.type "bool")
  | int (i : Int) : TyOf K H (.int i) (.type "int")
  | str (x : Str) : TyOf K H (.str x) (.type "str")
  | flt (x : UInt64) : TyOf K H (.flt x) (.type "float")
  | lst {a : Addr} {xs : List V} (e : H a = some (.lst xs)) : TyOf K H (.ref a) (.type "list")
  | frz {a : Addr} {o : Obj} {xs : List V} (e : H a = some (.frz o (.lst xs))) : TyOf K H (.ref a) (.type "list")
  | tup {a : Addr} {xs : List V} (e : H a = some (.tup xs)) : TyOf K H (.ref a) (.type "tuple")
  | dK {a : Addr} {kvs : List (Key × V)} (e : H a = some (.dK kvs)) : TyOf K H (.ref a) (.type "dict")
  | dT {a : Addr} {kvs : List (List Key × V)} (e : H a = some (.dT kvs)) : TyOf K H (.ref a) (.type "dict")
  | ins {a C dx : Addr} {fs : List (Str × V)} (e : H a = some (.ins C dx fs)) (cl : Cls K C) (ha : PySem.W.findIn K (.ref C) "__class__" = some (some (.builtin "object.__class__")))
      (hn : PySem.W.specialIn K (.builtin "object.__class__") "__get__" = some (some (.builtin "getset_descriptor.__get__"))) (htk : PySem.W.takesIn K (.builtin "object.__class__") = some true)
      (hm : PySem.W.mroIn K C (.type "object") = some true) : TyOf K H (.ref a) (.ref C)
theorem isinst_ok {x : V} {u t : Value} (I : Inv X pins σ H s) (rx : RelV x u) (ty : TyOf X.K H x t) (e : PySem.W.kitOne X.K t c = some b) (h : ∀ tk, Q (.bool b) { s with toks := tk }) :
    wpAny (model X.prog X.w) A (call (.builtin "isinstance") [u, c]) Q E s := by
  cases ty with
  | non => cases (show u = Value.none from rx); exact PySem.W.kia_one PySem.W.kitx_none I.kIn True.intro e (fun z => nomatch z) h
  | bl y => cases (show u = Value.bool y from rx); exact PySem.W.kia_one PySem.W.kitx_bool I.kIn True.intro e (fun z => nomatch z) h
  | int i => obtain ⟨t, q⟩ := (show ∃ t, u = Value.int i t from rx); cases q; exact PySem.W.kia_one PySem.W.kitx_int I.kIn True.intro e (fun z => nomatch z) h
  | str y => obtain ⟨t, q⟩ := (show ∃ t, u = Value.str y t from rx); cases q; exact PySem.W.kia_one PySem.W.kitx_str I.kIn True.intro e (fun z => nomatch z) h
  | flt y => obtain ⟨t, q⟩ := (show ∃ t, u = Value.float y t from rx); cases q; exact PySem.W.kia_one PySem.W.kitx_float I.kIn True.intro e (fun z => nomatch z) h
  | @lst a xs ea =>
    cases (show u = Value.ref a from rx)
    obtain ⟨_, _, n, _, h1⟩ := (show ObjOk X.prog X.w H s.heap a (.lst xs) from I.hok a _ ea)
    exact PySem.W.kia_one PySem.W.kitx_list I.kIn ⟨_, h1, rfl⟩ e (fun z => nomatch z) h
  | @frz a ob xs ea =>
    cases (show u = Value.ref a from rx)
    obtain ⟨_, _, _, n, _, h1⟩ := (show ObjOk X.prog X.w H s.heap a (.frz ob (.lst xs)) from I.hok a _ ea)
    exact PySem.W.kia_one PySem.W.kitx_list I.kIn ⟨_, h1, rfl⟩ e (fun z => nomatch z) h
  | @tup a xs ea =>
    cases (show u = Value.ref a from rx)
    obtain ⟨_, _, _, p⟩ := (show ObjOk X.prog X.w H s.heap a (.tup xs) from I.hok a _ ea)
    obtain ⟨o, h1, h2, _⟩ := p
    exact PySem.W.kia_one PySem.W.kitx_tuple I.kIn ⟨o, h1, h2⟩ e (fun z => nomatch z) h
  | @dK a kvs ea =>
    cases (show u = Value.ref a from rx)
    obtain ⟨_, _, vs, _, p⟩ := (show ObjOk X.prog X.w H s.heap a (.dK kvs) from I.hok a _ ea)
    obtain ⟨o, es, ep, h1, h2, _⟩ := p
    exact PySem.W.kia_one PySem.W.kitx_dict I.kIn ⟨o, h1, h2.1⟩ e (fun z => nomatch z) h
  | @dT a kvs ea =>
    cases (show u = Value.ref a from rx)
    obtain ⟨_, _, xs, _, o, es, ep, h1, h2, _⟩ := (show ObjOk X.prog X.w H s.heap a (.dT kvs) from I.hok a _ ea)
    exact PySem.W.kia_one PySem.W.kitx_dict I.kIn ⟨o, h1, h2.1⟩ e (fun z => nomatch z) h
  | @ins a C dx fs ea cl ha hn htk hm =>
    cases (show u = Value.ref a from rx)
    obtain ⟨mA, O, _⟩ := ins_get I.hok ea
    obtain ⟨od, J, _⟩ := O.look
    exact PySem.W.kia_one (PySem.W.kitx_own (cl.get _) cl.hd ha hn htk hm) I.kIn J e (fun z => nomatch z) h
end
end L2
namespace L2
open PySem PySem.Spec PyProof.Rows
structure Room (k : Nat) (A : Around) : Prop where
  hd : A.handled = none
  dp : A.depth + 3 * k + 5 < recursionLimit
  un : A.units + 16 * k + 200 < cLine
theorem Room.mono {j k : Nat} {A : Around} (r : Room k A) (h : j ≤ k) : Room j A := ⟨r.hd, by have := r.dp; omega, by have := r.un; omega⟩
theorem Room.deeper {k : Nat} {A : Around} (r : Room (k + 1) A) (env : Env) : Room k (A.deeper env) :=
  ⟨r.hd, by have := r.dp; show A.depth + 1 + 3 * k + 5 < _; omega, by have := r.un; show A.units + 3 + 16 * k + 200 < _; omega⟩
theorem Room.depth {k : Nat} {A : Around} (r : Room k A) : A.depth < recursionLimit := by have := r.dp; omega
theorem Room.units {k : Nat} {A : Around} (r : Room k A) : A.units + 64 < cLine := by have := r.un; omega
def tNil : TA := fun _ H Q => Q [] H
def tCons (ta : TE) (tr : TA) : TA := fun σ H Q => ta σ H fun x H1 => tr σ H1 fun xs H2 => Q (x :: xs) H2
section
variable {X : Cx} {e : Expr} {es : List Expr} {te : TE} {t : TA} {pos : Pos}
theorem pa_nil : PA X [] tNil := fun _ _ _ _ H Q I h => Calls.spliced_nil ⟨[], H, I, .nil, h⟩
theorem pa_cons (ha : PE X e te) (hr : PA X es t) (hs : starEach (e :: es) X.env = (false, eval e X.env) :: starEach es X.env := by rfl) : PA X (e :: es) (tCons te t) := by
  intro pos pins s σ H Q I h
  rw [hs]
  show wpAny _ _ (spliced ((false, eval e X.env) :: backTo pos (starEach es X.env))) _ _ s
  refine Calls.spliced_cons (thn (ha pins s σ H _ I h) fun u s1 ⟨x, H1, I1, r1, q1⟩ => ?_)
  exact thn (hr pos pins s1 σ H1 _ I1 q1) fun us s2 ⟨xs, H2, I2, r2, q2⟩ => ⟨x :: xs, H2, I2, .cons r1 r2, q2⟩
def tTup (t : TA) : TE := fun σ H Q => t σ H fun xs H1 => xs.length ≤ sizeLine ∧ ∀ p, H1 p = none → Q (.ref p) (upd H1 p (.tup xs))
def tLst (t : TA) : TE := fun σ H Q => t σ H fun xs H1 => xs.length ≤ sizeLine ∧ ∀ p, H1 p = none → Q (.ref p) (upd H1 p (.lst xs))
theorem pe_lst (h : PA X es t) : PE X (.List es pos) (tLst t) := by
  intro pins s σ H Q I hq
  refine wpAny_List_spliced (thn (h pos pins s σ H _ I hq) fun us s1 ⟨xs, H1, I1, r, z, q⟩ => ⟨by rw [← r.length]; exact z, ?_⟩)
  have hf : H1 s1.heap.objs.size = none := I1.hok.fresh (Nat.le_refl _)
  refine ⟨.ref s1.heap.objs.size, upd H1 s1.heap.objs.size (.lst xs), I1.laid (t' := s1.toks) (fun b u e => Heap.get?_push_of_some _ e) (Nat.le_refl _) ?_, rfl, q _ hf⟩
  exact ⟨z, us, 0, r, Heap.get?_push_size _ rfl⟩
end
abbrev Sp := List V → Hp → VK → XK → Prop
abbrev CXT := List Env → Hp → Shared → XK → Value → Shared → Prop
structure Env0 (P : Program) (w : World) (K : PySem.W.Frag) (mg : Str → Option Value) (base : Heap) (A : Around) (outer : List Env) (s : Shared) (H : Hp) : Prop where
  frames : A.frames = some outer
  mod : Mod K mg base
  bs : ∀ b o, base.get? b = some o → s.heap.get? b = some o ∧ H b = none
  bsz : base.objs.size ≤ s.heap.objs.size
  funs : s.heap.FunFrames base outer
  frf : ∀ b ∈ frs outer, H b = none
  hok : HOk P w H s.heap
  bare : AllBare s.gens
def CE (outer : List Env) (P : Program) (w : World) (H : Hp) (s : Shared) (Q : VK) (u : Value) (s' : Shared) : Prop :=
  ∃ v H', s'.os = s.os ∧ AllBare s'.gens ∧ Un (frs outer) [] H H' s.heap s'.heap ∧ HOk P w H' s'.heap ∧ RelV v u ∧ Q v H'
def CR (CX : CXT) (outer : List Env) (P : Program) (w : World) (H : Hp) (s : Shared) (Q : VK) (E : XK) (r : Result) (s' : Shared) : Prop :=
  match r with
  | .ok (.ret u) => CE outer P w H s Q u s'
  | .ok _ => False
  | .error e => CX outer H s E e s'
structure FnOk (P : Program) (w : World) (K : PySem.W.Frag) (mg : Str → Option Value) (base : Heap) (CX : CXT) (k : Nat) (f : Addr) (fd : FuncData) (ps : List Str) (sp : Sp) : Prop where
  len : ∀ vs H Q E, sp vs H Q E → vs.length = ps.length
  run : ∀ (A : Around) (outer : List Env) (s : Shared) (H : Hp) (args : Args) (us : List Value) (vs : List V) (Q : VK) (E : XK), Room k A → Env0 P w K mg base A outer s H → BindsTo s fd args (ps.zip us) → Vals vs us → sp vs H Q E →
    codeAny (model P w) A (.call (.ref f) args) (CR CX outer P w H s Q E) s
theorem FnOk.mono {P : Program} {w : World} {K : PySem.W.Frag} {mg : Str → Option Value} {base : Heap} {CX : CXT} {j k : Nat} {f : Addr} {fd : FuncData} {ps : List Str} {sp : Sp} (F : FnOk P w K mg base CX j f fd ps sp) (h : j ≤ k) :
    FnOk P w K mg base CX k f fd ps sp := ⟨F.len, fun A outer s H args us vs Q E hr => F.run A outer s H args us vs Q E (hr.mono h)⟩
section
variable {X : Cx} {pins : List (Addr × Obj)} {σ : St} {H : Hp} {s s' : Shared}
theorem Inv.env0 (I : Inv X pins σ H s) : Env0 X.prog X.w X.K X.mg X.base X.A X.stack s H :=
  ⟨I.ok.frames, I.ok.mod, I.bs, Nat.le_trans I.ok.bsz I.sz, I.stack, I.stkFree, I.hok, I.bare⟩
theorem Inv.after {Q : VK} {u : Value} (I : Inv X pins σ H s) (h : CE X.stack X.prog X.w H s Q u s') : EP X pins σ Q u s' := by
  obtain ⟨v, H', os, bare, un, hok, r, q⟩ := h
  obtain ⟨hh, g, d, t, os'⟩ := s'
  obtain rfl : os' = s.os := os
  exact ⟨v, H', I.call (h' := hh) (g' := g) (d' := d) (t' := t) (ch := []) un hok bare (fun b z => absurd z (by simp)), r, q⟩
end
def tCall (sp : Sp) (dvs : List V) (E : XK) (t : TA) : TE := fun σ H Q => t σ H fun vs H1 => sp (vs ++ dvs) H1 Q E
def tMeth (C : Addr) (m : Str) (sp : Sp) (dvs : List V) (E : XK) (ta : TE) (t : TA) : TE := fun σ H Q => ta σ H fun x H1 => ∃ a dx fs, x = .ref a ∧ H1 a = some (.ins C dx fs) ∧ fs.lookup m = none ∧
  t σ H1 fun vs H2 => sp (x :: (vs ++ dvs)) H2 Q E
def tMake (C : Addr) (sp : Sp) (dvs : List V) (E : XK) (t : TA) : TE := fun σ H Q => t σ H fun vs H1 => ∀ x dx, H1 x = none → H1 dx = none → dx ≠ x →
  sp (.ref x :: (vs ++ dvs)) (upd (upd H1 dx (.own x)) x (.ins C dx [])) (fun v H2 => v = .non ∧ Q (.ref x) H2) E
def Binds (K : PySem.W.Frag) (fd : FuncData) (ps : List Str) (ds : List Value) : Prop :=
  ∀ (s : Shared) (us : List Value), K.In s.heap → (us ++ ds).length = ps.length → BindsTo s fd ⟨us, []⟩ (ps.zip (us ++ ds))
theorem Binds.all {K : PySem.W.Frag} {fd : FuncData} {ps : List Str} (h : ∀ us : List Value, us.length = ps.length → bindArgs fd ⟨us, []⟩ = pure (ps.zip us)) : Binds K fd ps [] := fun s us _ hl => by
  rw [List.append_nil] at hl ⊢
  exact .of_eq (h us hl)
def Passes (CX : CXT) (X : Cx) (E : XK) : Prop := ∀ (pins : List (Addr × Obj)) (σ : St) (H : Hp) (s : Shared) (e : Value) (s' : Shared), Inv X pins σ H s → CX X.stack H s E e s' → X.xe e s'
section
variable {X : Cx} {CX : CXT} {k : Nat} {f C : Addr} {fd : FuncData} {ps : List Str} {sp : Sp} {dvs : List V} {ds : List Value} {E : XK} {x m : Str} {p pos apos : Pos} {e o : Expr} {es : List Expr} {ta : TE} {t : TA}
theorem run_fn {pins : List (Addr × Obj)} {σ : St} {H : Hp} {s : Shared} {Q : VK} {us : List Value} {vs : List V} (F : FnOk X.prog X.w X.K X.mg X.base CX k f fd ps sp) (hr : Room k X.A) (hb : Binds X.K fd ps ds) (hd : Vals dvs ds) (hx : Passes CX X E)
    (I : Inv X pins σ H s) (r : Vals vs us) (h : sp (vs ++ dvs) H Q E) : wpAny (model X.prog X.w) X.A (call (.ref f) us) (EP X pins σ Q) X.xe s := by
  have r2 : Vals (vs ++ dvs) (us ++ ds) := r.append hd
  have hl : (us ++ ds).length = ps.length := by rw [← r2.length]; exact F.len _ _ _ _ h
  refine wpAny_call (codeAny_mono (F.run X.A X.stack s H ⟨us, []⟩ (us ++ ds) (vs ++ dvs) Q E hr I.env0 (hb s us I.kIn hl) r2 h) fun r s' hq => ?_)
  cases r with
  | error e => exact hx pins σ H s e s' I hq
  | ok fl =>
    cases fl with
    | ret u => exact I.after hq
    | next => exact False.elim hq
    | brk => exact False.elim hq
    | cont => exact False.elim hq
theorem pe_call (F : FnOk X.prog X.w X.K X.mg X.base CX k f fd ps sp) (hr : Room k X.A) (hg : Gl X x) (hm : X.mg x = some (.ref f)) (hk : PySem.W.keepIn X.K (.ref f) = true) (hb : Binds X.K fd ps ds) (hd : Vals dvs ds) (hx : Passes CX X E)
    (ha : PA X (e :: es) t) (hdb : (x == ("__debug__" : Str)) = false := by decide) (he : starEach (e :: es) X.env = (false, eval e X.env) :: starEach es X.env := by rfl) (hpl : (backTo pos (starEach es X.env)).any (·.1) = false := by rfl) :
    PE X (.Call (.Name x p) (e :: es) [] pos) (tCall sp dvs E t) := by
  intro pins s σ H Q I h
  refine wpAny_Call_Name_kw (ld_glob I hg hm ?_ hdb)
  refine PySem.W.callWith_K (h₀ := X.base) I.ok.mod.kin hk (thn (ha pos pins s σ H _ I h) fun us s1 ⟨vs, H1, I1, r, q⟩ => ⟨I1.kIn, ?_⟩) he hpl
  exact run_fn F hr hb hd hx I1 r q
structure Mk (K : PySem.W.Frag) (C f : Addr) : Prop where
  makes : PySem.W.makesIn K C = true
  init : PySem.W.findIn K (.ref C) "__init__" = some (some (.ref f))
  fn : PySem.W.isFn K (.ref f) = true
  kp : PySem.W.keepIn K (.ref C) = true
end
def PK (X : Cx) (kws : List Keyword) (t : TA) : Prop :=
  ∀ (pos : Pos) (pins : List (Addr × Obj)) (s : Shared) (σ : St) (H : Hp) (Q : List V → Hp → Prop), Inv X pins σ H s → t σ H Q → wpAny (model X.prog X.w) X.A (evalAll ((backToKw pos (keywordEach kws X.env)).map (·.2))) (AP X pins σ Q) X.xe s
section
variable {X : Cx} {CX : CXT} {k : Nat} {f C : Addr} {fd : FuncData} {ps ks : List Str} {sp : Sp} {E : XK} {x m : Str} {p pos apos kpos : Pos} {e o : Expr} {es : List Expr} {kws : List Keyword} {te ta : TE} {t tk : TA} {nm : Option Str}
structure KBinds (K : PySem.W.Frag) (fd : FuncData) (ps ks : List Str) (g : List Value → List Value → List Value) (gV : List V → List V → List V) : Prop where
  to : ∀ (s : Shared) (us ws : List Value), K.In s.heap → (g us ws).length = ps.length → BindsTo s fd ⟨us, ks.zip ws⟩ (ps.zip (g us ws))
  rel : ∀ {vs : List V} {us : List Value} {zs : List V} {ws : List Value}, Vals vs us → Vals zs ws → Vals (gV vs zs) (g us ws)
def tCallK (sp : Sp) (gV : List V → List V → List V) (E : XK) (t tk : TA) : TE := fun σ H Q => t σ H fun vs H1 => tk σ H1 fun zs H2 => sp (gV vs zs) H2 Q E
variable {g : List Value → List Value → List Value} {gV : List V → List V → List V}
end
structure FnScope (N P : List Str) (sc : Scope) : Prop where
  kind : sc.kind = .function
  co : sc.isCoroutine = false
  gen : sc.isGenerator = false
  nd : N.Nodup
  pre : N.take P.length = P
  par : ∀ x ∈ P, sc.names.lookup x = some .local ∨ sc.names.lookup x = some .cell
  nofree : ∀ y ∈ sc.names, y.2 ≠ .free
theorem bindL_out {kindOf : Str → Option NameKind} {x : Str} : ∀ {binds : List (Str × Value)} {m : Str → Option Value}, (∀ v, (x, v) ∉ binds) → bindL kindOf binds m x = m x
  | [], _, _ => rfl
  | (n, v) :: r, m, h => by
    unfold bindL
    rw [bindL_out fun w hw => h w (List.mem_cons_of_mem _ hw)]
    split
    · have : x ≠ n := by rintro rfl; exact h v List.mem_cons_self
      simp [this]
    · rfl
theorem bindC_out {kindOf : Str → Option NameKind} {x : Str} : ∀ {binds : List (Str × Value)} {m : Str → Option Value}, (∀ v, (x, v) ∉ binds) → bindC kindOf binds m x = m x
  | [], _, _ => rfl
  | (n, v) :: r, m, h => by
    unfold bindC
    rw [bindC_out fun w hw => h w (List.mem_cons_of_mem _ hw)]
    split
    · rfl
    · have : x ≠ n := by rintro rfl; exact h v List.mem_cons_self
      simp [this]
theorem bindL_get {kindOf : Str → Option NameKind} {x : Str} {v : Value} : ∀ {P : List Str} {vs : List Value} {i : Nat} {m : Str → Option Value}, P.Nodup → P[i]? = some x → vs[i]? = some v → kindOf x = some .local →
    bindL kindOf (P.zip vs) m x = some v
  | [], _, _, _, _, h, _, _ => by simp at h
  | _ :: _, [], _, _, _, _, h, _ => by simp at h
  | p :: P, w :: vs, 0, m, nd, h1, h2, hk => by
    simp at h1 h2; subst h1; subst h2
    show bindL kindOf ((p, w) :: P.zip vs) m p = _
    unfold bindL
    rw [bindL_out fun v hv => (List.nodup_cons.mp nd).1 (List.of_mem_zip hv).1, if_pos hk]
    simp
  | p :: P, w :: vs, i + 1, m, nd, h1, h2, hk => by
    show bindL kindOf ((p, w) :: P.zip vs) m x = _
    unfold bindL
    exact bindL_get (i := i) (List.nodup_cons.mp nd).2 (by simpa using h1) (by simpa using h2) hk
theorem bindC_get {kindOf : Str → Option NameKind} {x : Str} {v : Value} : ∀ {P : List Str} {vs : List Value} {i : Nat} {m : Str → Option Value}, P.Nodup → P[i]? = some x → vs[i]? = some v → kindOf x ≠ some .local →
    bindC kindOf (P.zip vs) m x = some v
  | [], _, _, _, _, h, _, _ => by simp at h
  | _ :: _, [], _, _, _, _, h, _ => by simp at h
  | p :: P, w :: vs, 0, m, nd, h1, h2, hk => by
    simp at h1 h2; subst h1; subst h2
    show bindC kindOf ((p, w) :: P.zip vs) m p = _
    unfold bindC
    rw [bindC_out fun v hv => (List.nodup_cons.mp nd).1 (List.of_mem_zip hv).1, if_neg hk]
    simp
  | p :: P, w :: vs, i + 1, m, nd, h1, h2, hk => by
    show bindC kindOf ((p, w) :: P.zip vs) m x = _
    unfold bindC
    exact bindC_get (i := i) (List.nodup_cons.mp nd).2 (by simpa using h1) (by simpa using h2) hk
def start (N : List Str) (vs : List V) : St := vs.map some ++ List.replicate (N.length - vs.length) none
def cxOf (CX : CXT) (P : Program) (w : World) (K : PySem.W.Frag) (mg : Str → Option Value) (base : Heap) (N : List Str) (qual : Str) (scope : Scope) (f : Addr) (cd : Value) (A : Around) (outer : List Env) (s : Shared) (H : Hp) (E : XK) : Cx where
  prog := P
  w := w
  K := K
  mg := mg
  base := base
  A := A.deeper (envOfC qual scope s.heap.objs.size f cd)
  N := N
  s₀ := s
  H₀ := H
  env := envOfC qual scope s.heap.objs.size f cd
  outer := outer
  stack := envOfC qual scope s.heap.objs.size f cd :: outer
  ex := []
  calm := true
  fn := fun _ => true
  pn := []
  xe := fun e s' => wpAny (model P w) (A.deeper (envOfC qual scope s.heap.objs.size f cd)) (leaving (envOfC qual scope s.heap.objs.size f cd) e) (fun _ s'' => CX outer H s E e s'') (fun e' s'' => CX outer H s E e' s'') s'
theorem cell_has {sc : Scope} {n : Nat} {x : Str} (h : sc.names.lookup x = some .cell) : ∃ c, (cellsFrom n sc.names []).lookup x = some c := by
  have q := PySem.W.cellsFrom_some sc.names n [] (.inl h)
  exact Option.isSome_iff_exists.mp q
theorem inv_start {CX : CXT} {P : Program} {w : World} {K : PySem.W.Frag} {mg : Str → Option Value} {base : Heap} {N ps : List Str} {qual : Str} {scope : Scope} {f : Addr} {cd : Value} {A : Around} {outer : List Env} {s s1 : Shared} {H : Hp} {E : XK} {us : List Value} {vs : List V}
    (S : FnScope N ps scope) (hd : A.handled = none) (e0 : Env0 P w K mg base A outer s H) (hl : vs.length = ps.length) (r : Vals vs us)
    (x : InCallC s s.heap.objs.size (bindL (envOfC qual scope s.heap.objs.size f cd).kindOf (ps.zip us) fun _ => none) (cellsFrom (s.heap.objs.size + 1) scope.names []) (bindC (envOfC qual scope s.heap.objs.size f cd).kindOf (ps.zip us) fun _ => none) s1) :
    Inv (cxOf CX P w K mg base N qual scope f cd A outer s H E) [] (start N vs) H s1 := by
  have hpl : ps.length ≤ N.length := by have := congrArg List.length S.pre; rw [List.length_take] at this; omega
  obtain ⟨h1, tk, rfl, hk⟩ := x.done
  have noA : ∀ b : Addr, b ∉ (cxOf CX P w K mg base N qual scope f cd A outer s H E).ex := fun b z => absurd (show b ∈ ([] : List Addr) from z) (by simp)
  refine ⟨⟨e0.mod, S.kind, rfl, rfl, Nat.le_refl _, fun y z c h1 h2 => ?_, fun y hy => ?_, fun y c _ h => ?_, fun _ => hd, Around.frames_deeper e0.frames, .inr ⟨rfl, rfl⟩, fun b z => absurd z (noA b), e0.bs, e0.bsz, fun b _ _ => noA b, fun b z => absurd z (noA b), e0.funs, e0.frf⟩,
    rfl, e0.bare, Un.kept hk, ⟨_, x.toInCall.ns, fun i y v h1 h2 h3 => ?_⟩, fun y c h => ⟨_, x.cell y c h⟩, e0.hok.fresh (Nat.le_refl _), fun y c h => ?_, fun p hp => absurd (show p ∈ ([] : List (Addr × Obj)) from hp) (by simp), e0.hok.kept hk, ?_⟩
  · exact name_of_addr x.apart (PySem.mem_of_lookup h1) (PySem.mem_of_lookup h2)
  · have hy : scope.names.lookup y = some .cell ∨ scope.names.lookup y = some .free := hy
    rcases hy with hy | hy
    · exact cell_has hy
    · exact absurd rfl (S.nofree _ (PySem.mem_of_lookup hy))
  · exact Nat.le_of_lt (x.above y c (PySem.mem_of_lookup h))
  · have hi : i < vs.length := by
      unfold start at h2
      by_cases hi : i < vs.length
      · exact hi
      · rw [List.getElem?_append_right (by simpa using hi)] at h2
        rw [List.getElem?_replicate] at h2
        split at h2 <;> cases h2
    have ha : vs[i]? = some v := by
      unfold start at h2
      rw [List.getElem?_append_left (by simpa using hi), List.getElem?_map] at h2
      cases e : vs[i]? with
      | none => rw [e] at h2; cases h2
      | some a => rw [e] at h2; cases h2; rfl
    obtain ⟨u, hu, rv⟩ := r.get ha
    have hp : ps[i]? = some y := by
      rw [← S.pre, List.getElem?_take_of_lt (by omega)]; exact h1
    have ndP : ps.Nodup := by rw [← S.pre]; exact S.nd.sublist (List.take_sublist _ _)
    refine ⟨u, rv, ?_⟩
    rcases S.par y (List.mem_of_getElem? hp) with k | k
    · exact .inl ⟨k, bindL_get ndP hp hu k⟩
    · obtain ⟨c, e⟩ := cell_has (n := s.heap.objs.size + 1) k
      refine .inr ⟨.inl k, c, e, ?_⟩
      have q := x.cell y c e
      rw [bindC_get ndP hp hu (by show scope.names.lookup y ≠ _; rw [k]; decide)] at q
      exact q
  · exact e0.hok.fresh (Nat.le_of_lt (x.above y c (PySem.mem_of_lookup h)))
  · unfold start
    show _ = N.length
    rw [List.length_append, List.length_map, List.length_replicate]
    omega
theorem fn_of {CX : CXT} {P : Program} {w : World} {K : PySem.W.Frag} {mg : Str → Option Value} {base : Heap} {k : Nat} {f : Addr} {name qual : Str} {params : Arguments} {body : List Stmt} {scope : Scope} {dV kV doc pm cdv ct oc : Value} {an od : Option Addr}
    {osl : Array (Option Value)} {N ps : List Str} {sp : Sp} (lk : K.lookup f = some ⟨oc, od, .func (PySem.W.fnOf name qual params body scope dV kV doc pm an cdv ct), osl⟩) (hcd : PySem.W.codeIn K cdv qual = true) (S : FnScope N ps scope)
    (len : ∀ vs H Q E, sp vs H Q E → vs.length = ps.length)
    (hbody : ∀ (A : Around) (outer : List Env) (s : Shared) (H : Hp) (vs : List V) (Q : VK) (E : XK), Room k (A.deeper (envOfC qual scope s.heap.objs.size f cdv)) → sp vs H Q E →
      ∃ t, PSs (cxOf CX P w K mg base N qual scope f cdv A outer s H E) body t ∧ t { nx := fun _ H' => Q .non H', rt := Q } (start N vs) H) :
    FnOk P w K mg base CX (k + 1) f (PySem.W.fnOf name qual params body scope dV kV doc pm an cdv ct) ps sp := by
  refine ⟨len, fun A outer s H args us vs Q E hr e0 hb r hsp => ?_⟩
  have hl := len _ _ _ _ hsp
  have KX : K.In s.heap := e0.mod.kin.keeps fun b o e => (e0.bs b o e).1
  have lim : s.heap.NoLimit := e0.mod.nolimit.keeps fun b o e => (e0.bs b o e).1
  have hkind : ∀ y ∈ ps.zip us, scope.names.lookup y.1 = some .local ∨ (scope.names.lookup y.1 = some .cell ∧ ((cellsFrom (s.heap.objs.size + 1) scope.names []).lookup y.1).isSome = true) := fun ⟨n, v⟩ hy => by
    rcases S.par n (List.of_mem_zip hy).1 with q | q
    · exact .inl q
    · exact .inr ⟨q, PySem.W.cellsFrom_some _ _ _ (.inl q)⟩
  refine codeAny_call_function hr.depth (KX _ _ lk) rfl S.co S.gen rfl (PySem.W.codeRec_of KX hcd) (hb _ _ _ _ ?_)
  refine wpAny_newFunctionEnv_cells S.kind hkind fun env he s1 x => ?_
  subst he
  refine ⟨lim.keeps x.toInCall.keep, codeAny_func ?_⟩
  obtain ⟨t, ht, hq⟩ := hbody A outer s H vs Q E (hr.deeper _) hsp
  have I : Inv (cxOf CX P w K mg base N qual scope f cdv A outer s H E) [] (start N vs) H s1 := inv_start S hr.hd e0 hl r x
  refine wpAny_mono (ht [] s1 (start N vs) H _ I hq) (fun fl s' hs => ?_) fun e s' hs => hs
  have fin : ∀ {σ' : St} {H' : Hp} {v : V} {u : Value}, Inv (cxOf CX P w K mg base N qual scope f cdv A outer s H E) [] σ' H' s' → RelV v u → Q v H' → CE outer P w H s Q u s' :=
    fun {σ' H' v u} J rv q => ⟨v, H', J.os, J.bare, J.base, J.hok, rv, q⟩
  cases fl with
  | ret u =>
    obtain ⟨v, σ', H', J, rv, q⟩ := hs
    exact fin J rv q
  | next =>
    obtain ⟨σ', H', J, q⟩ := hs
    exact fin (v := V.non) (u := Value.none) J rfl q
  | brk =>
    obtain ⟨_, _, _, q⟩ := hs
    exact False.elim q
  | cont =>
    obtain ⟨_, _, _, q⟩ := hs
    exact False.elim q
end L2
namespace L2
open PySem PySem.Spec PyProof.Rows
section
variable {X : Cx} {x : Str} {p pos : Pos} {e : Expr} {es : List Expr} {t : TA} {id T : String} {r : List V → Hp → VK → Prop}
def tCB (r : List V → Hp → VK → Prop) (t : TA) : TE := fun σ H Q => t σ H fun vs H1 => r vs H1 Q
theorem pe_callB (hc : CallR X (.builtin id) r) (hg : Gl X x) (hm : X.mg x = none) (hv : bootBuiltins x = some (.builtin id)) (ha : PA X (e :: es) t) (hn : x ≠ "__name__" := by decide) (hdb : (x == ("__debug__" : Str)) = false := by decide)
    (he : starEach (e :: es) X.env = (false, eval e X.env) :: starEach es X.env := by rfl) (hpl : (backTo pos (starEach es X.env)).any (·.1) = false := by rfl) : PE X (.Call (.Name x p) (e :: es) [] pos) (tCB r t) := by
  intro pins s σ H Q I h
  refine wpAny_Call_Name_kw (ld_blt I hg hm hv ?_ hn hdb)
  exact PyProof.Rows.callWith_builtin1 (thn (ha pos pins s σ H _ I h) fun us s1 ⟨vs, H1, I1, r1, q1⟩ => hc pins s1 σ H1 vs us Q I1 r1 q1) he hpl
theorem pe_callTy (hc : CallR X (.type T) r) (hg : Gl X x) (hm : X.mg x = none) (hv : bootBuiltins x = some (.type T)) (ha : PA X (e :: es) t) (hn : x ≠ "__name__" := by decide) (hdb : (x == ("__debug__" : Str)) = false := by decide)
    (he : starEach (e :: es) X.env = (false, eval e X.env) :: starEach es X.env := by rfl) (hpl : (backTo pos (starEach es X.env)).any (·.1) = false := by rfl) : PE X (.Call (.Name x p) (e :: es) [] pos) (tCB r t) := by
  intro pins s σ H Q I h
  refine wpAny_Call_Name_kw (ld_blt I hg hm hv ?_ hn hdb)
  exact PyProof.Rows.callWith_type1 (thn (ha pos pins s σ H _ I h) fun us s1 ⟨vs, H1, I1, r1, q1⟩ => hc pins s1 σ H1 vs us Q I1 r1 q1) he hpl
end
end L2
namespace HT
open PySem PyProof.Rows
def lexLt : List Int → List Int → Bool
  | [], [] => false
  | [], _ :: _ => true
  | _ :: _, [] => false
  | x :: xs, y :: ys => if x = y then lexLt xs ys else decide (x < y)
section
open PySem.SeqAt
open PySem.AutoSeq1 (wpAny_loadPart')
open PySem.MeetsSeq PySem.MeetsSeq2 PySem.MeetsSeq3
end
section
variable {prog : Program} {w : World} {A : Around} {E : Value → Shared → Prop} {s : Shared}
def sIx (n d : Nat) : Option Int → Nat
  | none => d
  | some v => if v < 0 then (v + (n : Int)).toNat else min v.toNat n
theorem sIx_none (n d : Nat) : sIx n d none = d := rfl
theorem sIx_nat (n d k : Nat) : sIx n d (some (k : Int)) = min k n := by
  show (if (k : Int) < 0 then ((k : Int) + (n : Int)).toNat else min (k : Int).toNat n) = min k n
  rw [if_neg (by omega), Int.toNat_natCast]
theorem sIx_le (n d : Nat) (hd : d ≤ n) (o : Option Int) : sIx n d o ≤ n := by
  cases o with
  | none => exact hd
  | some v =>
    show (if v < 0 then (v + (n : Int)).toNat else min v.toNat n) ≤ n
    by_cases hv : v < 0
    · rw [if_pos hv]; omega
    · rw [if_neg hv]; exact Nat.min_le_right _ _
end
end HT
namespace L2
open PySem PySem.Spec PyProof.Rows
abbrev TO := St → Hp → (Option Int → Hp → Prop) → Prop
def PO (X : Cx) (e : Option Expr) (t : TO) : Prop :=
  ∀ (pins : List (Addr × Obj)) (s : Shared) (σ : St) (H : Hp) (Q : Option Int → Hp → Prop), Inv X pins σ H s → t σ H Q →
    wpAny (model X.prog X.w) X.A (evalPart e X.env) (fun u s' => ∃ o H', Inv X pins σ H' s' ∧ IsPart u o ∧ Q o H') X.xe s
def tNoPart : TO := fun _ H Q => Q none H
def tPart (t : TE) : TO := fun σ H Q => t σ H fun x H1 => ∃ i, x = .int i ∧ Q (some i) H1
section
variable {X : Cx} {e : Expr} {te : TE} {lo hi : Option Expr} {tl th : TO} {pos p2 : Pos}
theorem po_none : PO X none tNoPart := by
  intro pins s σ H Q I h
  rw [evalPart_none]
  exact wpAny_pure ⟨none, H, I, .none, h⟩
theorem po_some (h : PE X e te) : PO X (some e) (tPart te) := by
  intro pins s σ H Q I hw
  rw [evalPart_some]
  refine thn (h pins s σ H _ I hw) fun u s1 ⟨x, H1, I1, r1, q1⟩ => ?_
  obtain ⟨i, rfl, q⟩ := q1
  obtain ⟨t, rfl⟩ := r1
  exact ⟨some i, H1, I1, .int i t, q⟩
def SlR (X : Cx) (r : V → Option Int → Option Int → Hp → VK → Prop) : Prop :=
  ∀ (pins : List (Addr × Obj)) (s : Shared) (σ : St) (H : Hp) (x : V) (v vl vu : Value) (lo hi : Option Int) (sl : Addr) (Q : VK), Inv X pins σ H s → RelV x v → s.heap.IsSliceOf sl vl vu .none → IsPart vl lo → IsPart vu hi → r x lo hi H Q →
    ∃ T id, typeLookup (.type T) "__getitem__" = pure (some (.builtin id)) ∧ s.TypeIs v T ∧ wpAny (model X.prog X.w) X.A (getItem v (.ref sl)) (EP X pins σ Q) X.xe s
def tSl (r : V → Option Int → Option Int → Hp → VK → Prop) (te : TE) (tl th : TO) : TE := fun σ H Q => te σ H fun x H1 => tl σ H1 fun l H2 => th σ H2 fun u H3 => r x l u H3 Q
theorem pe_slice {r : V → Option Int → Option Int → Hp → VK → Prop} (hr : SlR X r) (he : PE X e te) (hl : PO X lo tl) (hu : PO X hi th) : PE X (.Subscript e (.Slice lo hi none p2) pos) (tSl r te tl th) := by
  intro pins s σ H Q I h
  refine Subscript_ (thn (he pins s σ H _ I h) fun v s1 ⟨x, H1, I1, r1, q1⟩ => ?_)
  refine wpAny_Slice (thn (hl pins s1 σ H1 _ I1 q1) fun vl s2 ⟨l, H2, I2, pl, q2⟩ => thn (hu pins s2 σ H2 _ I2 q2) fun vu s3 ⟨u, H3, I3, pu, q3⟩ => ?_)
  rw [evalPart_none]
  refine wpAny_pure ?_
  have I4 : Inv X pins σ H3 { s3 with heap := s3.heap.push { cls := .type "slice", data := .fields #[vl, vu, .none] } } := I3.kept (t' := s3.toks) fun b ob q => Heap.get?_push_of_some _ q
  obtain ⟨T, id, hT, ht, hg⟩ := hr pins { s3 with heap := s3.heap.push { cls := .type "slice", data := .fields #[vl, vu, .none] } } σ H3 x v vl vu l u s3.heap.objs.size Q I4 r1 (Heap.IsSliceOf.new ..) pl pu q3
  show wpAny (model X.prog X.w) X.A (subscriptTail e (.Slice lo hi none p2) v (.ref s3.heap.objs.size)) (EP X pins σ Q) X.xe { s3 with heap := s3.heap.push { cls := .type "slice", data := .fields #[vl, vu, .none] } }
  exact tail_any (ops := [.ref s3.heap.objs.size, v]) ht hT hg (by with_unfolding_all rfl)
def cutV (xs : List V) (lo hi : Option Int) : List V := (xs.drop (HT.sIx xs.length 0 lo)).take (HT.sIx xs.length xs.length hi - HT.sIx xs.length 0 lo)
theorem cutV_length (xs : List V) (lo hi : Option Int) : (cutV xs lo hi).length ≤ xs.length := by
  unfold cutV
  rw [List.length_take, List.length_drop]
  omega
def rSlT (K : PySem.W.Frag) : V → Option Int → Option Int → Hp → VK → Prop := fun x lo hi H Q => ∃ a xs, x = .ref a ∧ SqT K H a xs ∧
  ¬ (HT.sIx xs.length 0 lo = 0 ∧ HT.sIx xs.length xs.length hi = xs.length) ∧ ∀ p, H p = none → Q (.ref p) (upd H p (.tup (cutV xs lo hi)))
def rLtT (K : PySem.W.Frag) : R2 := fun x y H Q => ∃ a b ns ms, x = .ref a ∧ y = .ref b ∧ SqT K H a (ns.map V.int) ∧ SqT K H b (ms.map V.int) ∧ Q (.bl (HT.lexLt ns ms)) H
def rCatT (K : PySem.W.Frag) : R2 := fun x y H Q => ∃ a b xs ys, x = .ref a ∧ y = .ref b ∧ SqT K H a xs ∧ SqT K H b ys ∧ xs ≠ [] ∧ xs.length + ys.length ≤ sizeLine ∧
  (ys = [] → Q (.ref a) H) ∧ (ys ≠ [] → ∀ p, H p = none → Q (.ref p) (upd H p (.tup (xs ++ ys))))
end
end L2
namespace L2
open PySem PySem.Spec PyProof.Rows
def ixN (n : Nat) (i : Int) : Option Nat := if 0 ≤ i then (if i < n then some i.toNat else none) else if -(n : Int) ≤ i then some (i + n).toNat else none
def atI {α : Type} (xs : List α) (i : Int) : Option α := (ixN xs.length i).bind fun j => xs[j]?
theorem ixN_seq {n : Nat} {i : Int} {j : Nat} (h : ixN n i = some j) : seqIndex? i n = some j ∧ j < n ∧ -(n : Int) ≤ i ∧ i < n := by
  unfold ixN at h
  by_cases h0 : 0 ≤ i
  · rw [if_pos h0] at h
    by_cases h1 : i < n
    · rw [if_pos h1] at h
      have e : i.toNat = j := Option.some.inj h
      exact ⟨by rw [seqIndex_of h0 h1, e], by omega, by omega, h1⟩
    · rw [if_neg h1] at h; cases h
  · rw [if_neg h0] at h
    by_cases h1 : -(n : Int) ≤ i
    · rw [if_pos h1] at h
      have e : (i + n).toNat = j := Option.some.inj h
      exact ⟨by rw [seqIndex_neg (by omega) h1, e], by omega, h1, by omega⟩
    · rw [if_neg h1] at h; cases h
theorem atI_get {α : Type} {xs : List α} {i : Int} {v : α} (h : atI xs i = some v) : ∃ j, seqIndex? i xs.length = some j ∧ xs[j]? = some v ∧ j < xs.length ∧ -(xs.length : Int) ≤ i ∧ i < xs.length := by
  unfold atI at h
  cases e : ixN xs.length i with
  | none => rw [e] at h; cases h
  | some j =>
    rw [e] at h
    obtain ⟨h1, h2, h3, h4⟩ := ixN_seq e
    exact ⟨j, h1, h, h2, h3, h4⟩
theorem atI_nat {α : Type} {xs : List α} {j : Nat} {v : α} (h : xs[j]? = some v) : atI xs (j : Int) = some v := by
  have hj : j < xs.length := (List.getElem?_eq_some_iff.mp h).1
  have e : ixN xs.length (j : Int) = some j := by
    unfold ixN
    rw [if_pos (by omega), if_pos (by omega)]; simp
  unfold atI; rw [e]; exact h
def PlainIx (b : Expr) : Prop := ∀ o i, subscripted b false o i = operate [o, i] (getItem o i)
def IxR (X : Cx) (r : R2) : Prop :=
  ∀ (value slice : Expr) (pins : List (Addr × Obj)) (s : Shared) (σ : St) (H : Hp) (x y : V) (v u : Value) (Q : VK), Inv X pins σ H s → RelV x v → RelV y u → r x y H Q →
    subscripted slice false v u = operate [v, u] (getItem v u) → wpAny (model X.prog X.w) X.A (subscriptTail value slice v u) (EP X pins σ Q) X.xe s
def MtR (X : Cx) (id : String) (r : V → List V → Hp → VK → Prop) : Prop :=
  ∀ (pins : List (Addr × Obj)) (s : Shared) (σ : St) (H : Hp) (x : V) (xs : List V) (v : Value) (us : List Value) (Q : VK), Inv X pins σ H s → RelV x v → Vals xs us → r x xs H Q →
    wpAny (model X.prog X.w) X.A (call (.builtin id) (v :: us)) (EP X pins σ Q) X.xe s
section
variable {X : Cx} {a b : Expr} {ta tb : TE} {pos : Pos}
theorem pe_ix {r : R2} (hr : IxR X r) (ha : PE X a ta) (hb : PE X b tb) (hs : PlainIx b) : PE X (.Subscript a b pos) (tOp r ta tb) := by
  intro pins s σ H Q I h
  exact Subscript_ (binT ha hb I h fun v u s2 x y H2 I2 rx ry q => hr a b pins s2 σ H2 x y v u Q I2 rx ry q (hs _ _))
def rIxL (K : PySem.W.Frag) : R2 := fun x y H Q => ∃ p xs i v, x = .ref p ∧ y = .int i ∧ SqL K H p xs ∧ atI xs i = some v ∧ Q v H
def rIxT (K : PySem.W.Frag) : R2 := fun x y H Q => ∃ p xs i v, x = .ref p ∧ y = .int i ∧ SqT K H p xs ∧ atI xs i = some v ∧ Q v H
def rIxS : R2 := fun x y H Q => ∃ z i c, x = .str z ∧ y = .int i ∧ z.length ≤ sizeLine ∧ atI z.cps.toList i = some c ∧ Q (.str ⟨#[c]⟩) H
theorem ix_list : IxR X (rIxL X.K) := by
  intro value slice pins s σ H x y v u Q I rx ry h hs
  obtain ⟨p, xs, i, z, rfl, rfl, hq, he, q⟩ := h
  cases rx
  obtain ⟨t, rfl⟩ := ry
  obtain ⟨its, r, pl, hz⟩ := I.list hq
  obtain ⟨j, h1, h2, h3, h4, h5⟩ := atI_get he
  obtain ⟨w, ew, rw'⟩ := r.get h2
  have hl := r.length
  have hn := line63
  have fin : EP X pins σ Q w s := ⟨z, H, I, rw', q⟩
  by_cases h0 : 0 ≤ i
  · have hj : i.toNat = j := by
      rw [seqIndex_of h0 h5] at h1
      exact Option.some.inj h1
    exact item_listR pl.isList h0 (by omega) (by rw [hj]; simpa using ew) fin hs
  · have hj : (i + (its.toArray.size : Int)).toNat = j := by
      rw [seqIndex_neg (by omega) h4] at h1
      rw [List.size_toArray, ← hl]
      exact Option.some.inj h1
    exact subscriptTail_builtinR (x := w) pl.isList.typeIs slot_list_getitem.lookup
      (wpAny_getItem_list_neg (Q := fun r s' => r = w ∧ EP X pins σ Q r s') pl.isList (by omega) (by rw [List.size_toArray] <;> omega) (by omega) (by rw [hj]; simpa using ew) ⟨rfl, fin⟩) hs
theorem ix_tup : IxR X (rIxT X.K) := by
  intro value slice pins s σ H x y v u Q I rx ry h hs
  obtain ⟨p, xs, i, z, rfl, rfl, hq, he, q⟩ := h
  cases rx
  obtain ⟨t, rfl⟩ := ry
  obtain ⟨its, r, pl, hz⟩ := I.tuple hq
  obtain ⟨j, h1, h2, h3, h4, h5⟩ := atI_get he
  obtain ⟨w, ew, rw'⟩ := r.get h2
  have hl := r.length
  have hn := line63
  have fin : EP X pins σ Q w s := ⟨z, H, I, rw', q⟩
  exact subscriptTail_builtinR (x := w) pl.typeIs slot_tuple_getitem.lookup
    (getItem_tuple (j := j) (Q := fun r s' => r = w ∧ EP X pins σ Q r s') pl (by omega) (by omega) (by rw [List.size_toArray, ← hl]; exact h1) (by simpa using ew) ⟨rfl, fin⟩) hs
theorem ix_str : IxR X rIxS := by
  intro value slice pins s σ H x y v u Q I rx ry h hs
  obtain ⟨z, i, c, rfl, rfl, hz, he, q⟩ := h
  obtain ⟨t, rfl⟩ := rx
  obtain ⟨t', rfl⟩ := ry
  obtain ⟨j, h1, h2, h3, h4, h5⟩ := atI_get he
  have hl : z.cps.toList.length = z.length := by simp [Str.length]
  rw [hl] at h1 h4 h5
  have hn := line63
  exact tail_any (typeIs_str s z t) slot_str_getitem.lookup (getItem_str (c := c) (by
    have e1 : decide (i < -(2 ^ 63 : Int)) = false := decide_eq_false (by omega)
    have e2 : decide (i ≥ 2 ^ 63) = false := decide_eq_false (by omega)
    rw [e1, e2, Bool.or_false]) (by rw [h1]; simpa using h2) ⟨.str ⟨#[c]⟩, H, I.tok _, ⟨_, rfl⟩, q⟩) hs
def rIx (K : PySem.W.Frag) : R2 := fun x y H Q => rIxL K x y H Q ∨ rIxT K x y H Q ∨ rIxS x y H Q
def rSetL : V → V → V → Hp → (Hp → Prop) → Prop := fun o i v H Q => ∃ p xs k j, o = .ref p ∧ i = .int k ∧ H p = some (.lst xs) ∧ ixN xs.length k = some j ∧ Q (upd H p (.lst (xs.set j v)))
theorem slice_bounds (lo hi : Option Int) (n : Nat) : (sliceBounds lo hi none n).1 = ((HT.sIx n 0 lo : Nat) : Int) ∧ (sliceBounds lo hi none n).2.1 = ((HT.sIx n n hi : Nat) : Int) ∧ (sliceBounds lo hi none n).2.2 = 1 := by
  refine ⟨?_, ?_, rfl⟩
  · cases lo with
    | none => simp [sliceBounds, HT.sIx]
    | some i =>
      simp only [sliceBounds, HT.sIx, Option.getD_none, show (1 : Int) > 0 by decide, if_true]
      by_cases h : i < 0
      · simp only [h, if_true] <;> omega
      · simp only [h, if_false] <;> omega
  · cases hi with
    | none => simp [sliceBounds, HT.sIx]
    | some i =>
      simp only [sliceBounds, HT.sIx, Option.getD_none, show (1 : Int) > 0 by decide, if_true]
      by_cases h : i < 0
      · simp only [h, if_true] <;> omega
      · simp only [h, if_false] <;> omega
theorem slicePick_cut (its : List Value) (lo hi : Option Int) : slicePick its.toArray lo hi none = ((its.drop (HT.sIx its.length 0 lo)).take (HT.sIx its.length its.length hi - HT.sIx its.length 0 lo)).toArray := by
  obtain ⟨h1, h2, h3⟩ := slice_bounds lo hi its.toArray.size
  unfold slicePick
  rw [h1, h2, h3]
  simp only [sliceRange_one, pick_run, List.size_toArray] <;> rfl
def rSlL (K : PySem.W.Frag) : V → Option Int → Option Int → Hp → VK → Prop := fun x lo hi H Q => ∃ a xs, x = .ref a ∧ SqL K H a xs ∧ ∀ p, H p = none → Q (.ref p) (upd H p (.lst (cutV xs lo hi)))
theorem sl_list : SlR X (rSlL X.K) := by
  intro pins s σ H x v vl vu lo hi sl Q I rx hs pl pu h
  obtain ⟨a, xs, rfl, hx, q⟩ := h
  cases rx
  obtain ⟨its, r, ht, hz⟩ := I.list hx
  have hlen := r.length
  refine ⟨"list", _, slot_list_getitem.lookup, ht.isList.typeIs, ?_⟩
  refine wpAny_getItem_list_slice ht.isList hs pl pu .none (by simp) ?_ (by rw [List.size_toArray] <;> omega)
  rw [slicePick_cut, ← hlen]
  refine ⟨.ref s.heap.objs.size, _, I.laid (t' := s.toks) (o := .lst (cutV xs lo hi)) (fun b ob q => Heap.get?_push_of_some _ q) (Nat.le_refl _) ?_, rfl, q _ (I.hok.fresh (Nat.le_refl _))⟩
  exact ⟨Nat.le_trans (cutV_length xs lo hi) hz, _, 0, (r.drop (HT.sIx xs.length 0 lo)).take (HT.sIx xs.length xs.length hi - HT.sIx xs.length 0 lo), Heap.get?_push_size _ rfl⟩
def flatV : V → Bool
  | .non => true
  | .bl _ => true
  | .int _ => true
  | .str _ => true
  | _ => false
def eqV : V → V → Bool
  | .non, .non => true
  | .bl a, .bl b => a == b
  | .bl a, .int b => (if a then 1 else 0) == b
  | .int a, .bl b => a == (if b then 1 else 0)
  | .int a, .int b => a == b
  | .str a, .str b => a == b
  | _, _ => false
theorem eqAt_V {A : Around} {s : Shared} {y x : V} {u v : Value} (ry : RelV y u) (rx : RelV x v) (fy : flatV y = true) (fx : flatV x = true) : SeqAt.EqAt A s u v (eqV y x) := by
  cases y with
  | non =>
    cases ry
    cases x with
    | non => cases rx; exact SeqAt.EqAt.same _
    | bl b => cases rx; exact SeqAt.EqAt.none_bool b
    | int b => obtain ⟨t, rfl⟩ := rx; exact SeqAt.EqAt.none_int b t
    | str b => obtain ⟨t, rfl⟩ := rx; exact SeqAt.EqAt.none_str b t
    | _ => exact absurd (show false = true from fx) Bool.false_ne_true
  | bl a =>
    cases ry
    cases x with
    | non => cases rx; exact SeqAt.EqAt.bool_none a
    | bl b => cases rx; exact SeqAt.EqAt.bool_bool a b
    | int b => obtain ⟨t, rfl⟩ := rx; exact SeqAt.EqAt.bool_int a b t
    | str b => obtain ⟨t, rfl⟩ := rx; exact SeqAt.EqAt.bool_str a b t
    | _ => exact absurd (show false = true from fx) Bool.false_ne_true
  | int a =>
    obtain ⟨t', rfl⟩ := ry
    cases x with
    | non => cases rx; exact SeqAt.EqAt.int_none a t'
    | bl b => cases rx; exact SeqAt.EqAt.int_bool a t' b
    | int b => obtain ⟨t, rfl⟩ := rx; exact SeqAt.EqAt.int_int a t' b t
    | str b => obtain ⟨t, rfl⟩ := rx; exact SeqAt.EqAt.int_str a t' b t
    | _ => exact absurd (show false = true from fx) Bool.false_ne_true
  | str a =>
    obtain ⟨t', rfl⟩ := ry
    cases x with
    | non => cases rx; exact SeqAt.EqAt.str_none a t'
    | bl b => cases rx; exact SeqAt.EqAt.str_bool a t' b
    | int b => obtain ⟨t, rfl⟩ := rx; exact SeqAt.EqAt.str_int a t' b t
    | str b => obtain ⟨t, rfl⟩ := rx; exact SeqAt.EqAt.str_str a t' b t
    | _ => exact absurd (show false = true from fx) Bool.false_ne_true
  | _ => exact absurd (show false = true from fy) Bool.false_ne_true
def eqU (x : V) (u : Value) : Bool := match u with
  | .none => eqV .non x
  | .bool b => eqV (.bl b) x
  | .int i _ => eqV (.int i) x
  | .str z _ => eqV (.str z) x
  | _ => false
theorem eqU_of {x y : V} {u : Value} (r : RelV y u) (f : flatV y = true) : eqU x u = eqV y x := by
  cases y with
  | non => cases r; rfl
  | bl b => cases r; rfl
  | int i => obtain ⟨t, rfl⟩ := r; rfl
  | str z => obtain ⟨t, rfl⟩ := r; rfl
  | _ => exact absurd (show false = true from f) Bool.false_ne_true
theorem any_eqU {x : V} : ∀ {xs : List V} {us : List Value}, Vals xs us → xs.all flatV = true → us.any (eqU x) = xs.any fun y => eqV y x
  | _, _, .nil, _ => rfl
  | y :: xs, u :: us, .cons r t, f => by
    rw [List.all_cons, Bool.and_eq_true] at f
    rw [List.any_cons, List.any_cons, eqU_of r f.1, any_eqU t f.2]
theorem mem_eqAt {A : Around} {s : Shared} {x : V} {v : Value} (rx : RelV x v) (fx : flatV x = true) : ∀ {xs : List V} {us : List Value}, Vals xs us → xs.all flatV = true → ∀ u ∈ us, SeqAt.EqAt A s u v (eqU x u)
  | _, _, .nil, _ => fun u hu => by cases hu
  | y :: xs, u :: us, .cons r t, f => fun u' hu => by
    rw [List.all_cons, Bool.and_eq_true] at f
    rcases List.mem_cons.mp hu with rfl | hu
    · rw [eqU_of r f.1]; exact eqAt_V r rx f.1 fx
    · exact mem_eqAt rx fx t f.2 u' hu
def inV (x : V) (xs : List V) : Bool := xs.any fun y => eqV y x
def rIn (K : PySem.W.Frag) (neg : Bool) : R2 := fun x y H Q => ∃ p xs, y = .ref p ∧ (SqL K H p xs ∨ SqT K H p xs) ∧ flatV x = true ∧ xs.all flatV = true ∧ Q (.bl (if neg then !inV x xs else inV x xs)) H
theorem op_notIn_seq : OpR X (compareOp .NotIn) (rIn X.K true) := by
  intro pins s σ H x y v u Q I rx ry h
  obtain ⟨p, xs, rfl, hq, fx, fs, q⟩ := h
  cases ry
  rcases hq with hq | hq
  · obtain ⟨its, r, pl, hz⟩ := I.list hq
    refine SeqAt.notIn_listAt (eqU x) pl.isList (fun w hw => mem_eqAt rx fx r fs w (by simpa using hw)) ⟨.bl _, H, I, rfl, ?_⟩
    rw [show its.toArray.any (eqU x) = its.any (eqU x) by simp, any_eqU r fs]
    exact q
  · obtain ⟨its, r, pl, hz⟩ := I.tuple hq
    refine SeqAt.notIn_tupleAt (eqU x) pl (fun w hw => mem_eqAt rx fx r fs w (by simpa using hw)) ⟨.bl _, H, I, rfl, ?_⟩
    rw [show its.toArray.any (eqU x) = its.any (eqU x) by simp, any_eqU r fs]
    exact q
theorem call_len_seq : CallR X (.builtin "len") (fun xs H Q => ∃ p ys, xs = [.ref p] ∧ (SqL X.K H p ys ∨ SqT X.K H p ys) ∧ Q (.int ys.length) H) := by
  intro pins s σ H xs us Q I r h
  obtain ⟨p, ys, rfl, hq, q⟩ := h
  obtain ⟨u, rfl, rx⟩ := vals1 r
  cases rx
  have hn := line63
  rcases hq with hq | hq
  · obtain ⟨its, r', pl, hz⟩ := I.list hq
    have hlen := r'.length
    exact Calls.call_len_list pl.isList (by simp only [List.size_toArray] <;> omega) ⟨.int ys.length, H, I.tok _, ⟨s.toks + 1, by rw [List.size_toArray, hlen]⟩, q⟩
  · obtain ⟨its, r', pl, hz⟩ := I.tuple hq
    have hlen := r'.length
    exact len_tuple pl (by simp only [List.size_toArray] <;> omega) ⟨.int ys.length, H, I.tok _, ⟨s.toks + 1, by rw [List.size_toArray, hlen]⟩, q⟩
theorem call_len_str : CallR X (.builtin "len") (fun xs H Q => ∃ z, xs = [.str z] ∧ z.length ≤ sizeLine ∧ Q (.int z.length) H) := by
  intro pins s σ H xs us Q I r h
  obtain ⟨z, rfl, hz, q⟩ := h
  obtain ⟨u, rfl, t, rfl⟩ := vals1 r
  have hn := line63
  exact len_str (by omega) ⟨.int z.length, H, I.tok _, ⟨_, rfl⟩, q⟩
theorem call_list_of : CallR X (.type "list") (fun xs H Q => ∃ p ys, xs = [.ref p] ∧ (SqL X.K H p ys ∨ SqT X.K H p ys) ∧ ∀ l, H l = none → Q (.ref l) (upd H l (.lst ys))) := by
  intro pins s σ H xs us Q I r h
  obtain ⟨p, ys, rfl, hq, q⟩ := h
  obtain ⟨u, rfl, rx⟩ := vals1 r
  cases rx
  have fin : ∀ (its : List Value), Vals ys its → ys.length ≤ sizeLine → ∀ (h' : Heap) (c' : Nat), (∀ b o', s.heap.get? b = some o' → h'.get? b = some o') →
      h'.get? s.heap.objs.size = some { cls := .type "list", dict := none, data := .seq its.toArray c', slots := #[] } → EP X pins σ Q (.ref s.heap.objs.size) { s with heap := h' } := fun its r' hz h' c' kp e =>
    ⟨.ref s.heap.objs.size, _, I.laid (t' := s.toks) kp (Nat.le_refl _) (show ObjOk X.prog X.w _ h' _ (.lst ys) from ⟨hz, its, c', r', e⟩), rfl, q _ (I.hok.fresh (Nat.le_refl _))⟩
  rcases hq with hq | hq
  · obtain ⟨its, r', pl, hz⟩ := I.list hq
    have hlen := r'.length
    obtain ⟨o, ho, hc, n, hd⟩ := pl.isList
    exact call_list_seq p (.inl rfl) ho hc hd (fun h' c' kp e => fin its r' hz h' c' kp e) (by simp only [List.size_toArray] <;> omega)
  · obtain ⟨its, r', pl, hz⟩ := I.tuple hq
    have hlen := r'.length
    obtain ⟨o, ho, hc, n, hd⟩ := pl
    exact call_list_seq p (.inr rfl) ho hc hd (fun h' c' kp e => fin its r' hz h' c' kp e) (by simp only [List.size_toArray] <;> omega)
def tyV (K : PySem.W.Frag) (T : String) (x : V) (H : Hp) : Prop := match x with
  | .str _ => T = "str"
  | .int _ => T = "int"
  | .ref p => (T = "list" ∧ ∃ xs, SqL K H p xs) ∨ (T = "tuple" ∧ ∃ o, K.lookup p = some o ∧ o.cls = .type "tuple" ∧ o.dict = none) ∨
      (T = "dict" ∧ ((∃ kvs, H p = some (.dK kvs)) ∨ ∃ kvs, H p = some (.dT kvs))) ∨ (T = "set" ∧ ∃ S n, H p = some (.set S n))
  | _ => False
theorem tyV_is {pins : List (Addr × Obj)} {σ : St} {H : Hp} {s : Shared} {T : String} {x : V} {v : Value} (I : Inv X pins σ H s) (r : RelV x v) (ty : tyV X.K T x H) :
    s.TypeIs v T ∧ ∀ a, v = .ref a → ∃ ob, s.heap.get? a = some ob ∧ ob.dict = none := by
  cases x with
  | str z =>
    obtain ⟨t, rfl⟩ := r
    cases (show T = "str" from ty)
    exact ⟨typeIs_str s z t, fun _ e => nomatch e⟩
  | int i =>
    obtain ⟨t, rfl⟩ := r
    cases (show T = "int" from ty)
    exact ⟨typeIs_int s i t, fun _ e => nomatch e⟩
  | ref p =>
    cases r
    rcases ty with ⟨rfl, xs, hq⟩ | ⟨rfl, o, hk, hc, hd⟩ | ⟨rfl, hk⟩ | ⟨rfl, S, n, hk⟩
    · obtain ⟨its, _, pl, _⟩ := I.list hq
      refine ⟨pl.isList.typeIs, fun a e => ?_⟩
      cases e
      obtain ⟨o, n, e, c, hd, _⟩ := pl
      exact ⟨o, e, hd⟩
    · refine ⟨⟨o, I.kIn p o hk, hc⟩, fun a e => ?_⟩
      cases e
      exact ⟨o, I.kIn _ o hk, hd⟩
    · have z : ∃ o, s.heap.get? p = some o ∧ o.ExactDict := by
        rcases hk with ⟨kvs, hk⟩ | ⟨kvs, hk⟩
        · obtain ⟨_, _, _, _, o, _, _, e, ex, _⟩ := I.hok p _ hk
          exact ⟨o, e, ex⟩
        · obtain ⟨_, _, _, _, o, _, _, e, ex, _⟩ := I.hok p _ hk
          exact ⟨o, e, ex⟩
      obtain ⟨o, e, ex⟩ := z
      refine ⟨⟨o, e, ex.1⟩, fun a e2 => ?_⟩
      cases e2
      exact ⟨o, e, ex.2.1⟩
    · obtain ⟨o, _, _, _, e, ex, _⟩ := I.hok p _ hk
      refine ⟨⟨o, e, ex.1⟩, fun a e2 => ?_⟩
      cases e2
      exact ⟨o, e, ex.2.1⟩
  | _ => exact False.elim ty
def tBM0 (K : PySem.W.Frag) (T : String) (r : V → List V → Hp → VK → Prop) (to : TE) : TE := fun σ H Q => to σ H fun x H1 => tyV K T x H1 ∧ r x [] H1 Q
def tBM (K : PySem.W.Frag) (T : String) (r : V → List V → Hp → VK → Prop) (to : TE) (t : TA) : TE := fun σ H Q => to σ H fun x H1 => tyV K T x H1 ∧ t σ H1 fun xs H2 => r x xs H2 Q
variable {o e : Expr} {es : List Expr} {to : TE} {t : TA} {name : Str} {apos cpos : Pos} {T id : String} {r : V → List V → Hp → VK → Prop}
theorem pe_bm0 (pa : PlainAttrs T) (slot : Slot T name id) (hty : typeOf (.builtin id) = pure (.type "method_descriptor")) (hm : MtR X id r) (ho : PE X o to)
    (hbase : attributeBase o name X.env (eval o X.env) = eval o X.env := by rfl) (hline : (apos.endLine == cpos.line) = true := by rfl) : PE X (.Call (.Attribute o name apos) [] [] cpos) (tBM0 X.K T r to) := by
  intro pins s σ H Q I h
  refine wpAny_Call_method0_late hbase hline (thn (ho pins s σ H _ I h) fun v s1 ⟨x, H1, I1, r1, ty, q1⟩ => ?_)
  obtain ⟨h1, h2⟩ := tyV_is I1 r1 ty
  exact ⟨T, id, pa, slot, hty, h1, h2, Calls.callWith_builtin rfl (PySem.evalArgs_none (hm pins s1 σ H1 x [] v [] Q I1 r1 .nil q1))⟩
theorem pe_bm (pa : PlainAttrs T) (slot : Slot T name id) (hty : typeOf (.builtin id) = pure (.type "method_descriptor")) (hm : MtR X id r) (ho : PE X o to) (ha : PA X (e :: es) t)
    (hbase : attributeBase o name X.env (eval o X.env) = eval o X.env := by rfl)
    (hfew : ((backTo cpos (starEach (e :: es) X.env)).all (fun x => !x.1) && (backToKw cpos (keywordEach [] X.env)).all (fun x => x.1.isSome)
      && decide ((e :: es).length + ([] : List Keyword).length + (if ([] : List Keyword).isEmpty then 0 else 1) < 30)) = true := by rfl)
    (hline : (apos.endLine == cpos.line) = true := by rfl) (hs : starEach (e :: es) X.env = (false, eval e X.env) :: starEach es X.env := by rfl) (hplain : (backTo cpos (starEach es X.env)).any (·.1) = false := by rfl) :
    PE X (.Call (.Attribute o name apos) (e :: es) [] cpos) (tBM X.K T r to t) := by
  intro pins s σ H Q I h
  refine wpAny_Call_method_late hbase hfew hline rfl (thn (ho pins s σ H _ I h) fun v s1 ⟨x, H1, I1, r1, ty, q1⟩ => ?_)
  obtain ⟨h1, h2⟩ := tyV_is I1 r1 ty
  refine ⟨T, id, pa, slot, hty, h1, h2, ?_⟩
  have hA := ha cpos pins s1 σ H1 _ I1 q1
  rw [hs] at hA ⊢
  refine Calls.callWith_builtin (by show (false || (backTo cpos (starEach es X.env)).any (·.1)) = false; rw [hplain] <;> rfl) (Calls.evalArgs_plain ?_)
  exact thn hA fun us s2 ⟨vs, H2, I2, r2, q2⟩ => hm pins s2 σ H2 x vs v us Q I2 r1 r2 q2
/- xs.append(e), list.index on a module's tuple .. are MtR facts of 06m -/
end
end L2
namespace L2
open PySem PySem.Spec PyProof.Rows
def MtM (X : Cx) (id : String) (r : V → List V → Hp → VK → Prop) : Prop :=
  ∀ (pins : List (Addr × Obj)) (s : Shared) (σ : St) (H : Hp) (x : V) (xs : List V) (v : Value) (us : List Value) (Q : VK), Inv X pins σ H s → RelV x v → Vals xs us → r x xs H Q →
    wpAny (model X.prog X.w) X.A (call (.builtin id) (v :: us)) (EP X pins σ Q) X.xe s
theorem Vals.one : ∀ {x : V} {us : List Value}, Vals [x] us → ∃ u, us = [u] ∧ RelV x u
  | _, _, .cons r .nil => ⟨_, rfl, r⟩
theorem Vals.zero : ∀ {us : List Value}, Vals [] us → us = []
  | _, .nil => rfl
theorem Vals.dropLast {xs : List V} {us : List Value} (h : Vals xs us) : Vals xs.dropLast us.dropLast := by
  induction h with
  | nil => exact .nil
  | cons r t ih =>
    cases t with
    | nil => exact .nil
    | cons q t' => exact .cons r ih
theorem erase_last {α : Type} (l : List α) : l.eraseIdx (l.length - 1) = l.dropLast := by
  induction l with
  | nil => rfl
  | cons a r ih =>
    cases r with
    | nil => rfl
    | cons b r =>
      have e : (a :: b :: r).length - 1 = ((b :: r).length - 1) + 1 := by
        have h1 : (a :: b :: r).length = r.length + 2 := rfl
        have h2 : (b :: r).length = r.length + 1 := rfl
        omega
      rw [e, List.eraseIdx_cons_succ, ih]
      all_goals rfl
section
variable {X : Cx} {pins : List (Addr × Obj)} {σ : St} {H : Hp} {s : Shared} {l b : Addr} {xs ys zs : List V}
theorem Inv.lset {its its' : List Value} {n : Nat} {f : Array Value → Array Value} {t' : Nat} (I : Inv X pins σ H s) (hH : H l = some (.lst xs))
    (e : s.heap.get? l = some { cls := .type "list", data := .seq its.toArray n }) (hf : f its.toArray = its'.toArray) (hv : Vals ys its') (hz : ys.length ≤ sizeLine) :
    Inv X pins σ (upd H l (.lst ys)) { s with heap := s.heap.update l (Obj.mapSeq f), toks := t' } := by
  have q := PySem.IsL.update e f
  rw [hf] at q
  refine I.write (x := l) (e := l) (by rw [hH]; exact trivial) (.inl rfl) (fun b' u hb hu => (Heap.get?_update_other s.heap (Obj.mapSeq f) (Ne.symm hb)).trans hu) ⟨_, q⟩ ?_
  exact ⟨hz, its', _, hv, q⟩
theorem Inv.lnew {its : List Value} {t' : Nat} (I : Inv X pins σ H s) (hv : Vals ys its) (hz : ys.length ≤ sizeLine) :
    Inv X pins σ (upd H s.heap.objs.size (.lst ys)) { s with heap := s.heap.push { cls := .type "list", data := .seq its.toArray }, toks := t' } :=
  I.laid (fun _ _ q => Heap.get?_push_of_some _ q) (Nat.le_refl _) ⟨hz, its, 0, hv, Heap.get?_push_size _ rfl⟩
theorem Inv.fresh (I : Inv X pins σ H s) : H s.heap.objs.size = none := I.hok.fresh (Nat.le_refl _)
theorem Inv.lstM (I : Inv X pins σ H s) (hH : H l = some (.lst xs)) : xs.length ≤ sizeLine ∧ ∃ (its : List Value) (n : Nat), Vals xs its ∧ xs.length = its.length ∧ s.heap.get? l = some { cls := .type "list", data := .seq its.toArray n } := by
  obtain ⟨z, its, n, r, e⟩ := I.hok l _ hH
  exact ⟨z, its, n, r, r.length, e⟩
theorem notLongL {n : Nat} (h : n ≤ sizeLine) : Builtin.List.listTooLong n = false := by
  unfold Builtin.List.listTooLong
  exact decide_eq_false (by omega)
end
section
variable {X : Cx}
def rAppend : V → List V → Hp → VK → Prop := fun x vs H Q => ∃ l xs y, x = .ref l ∧ vs = [y] ∧ H l = some (.lst xs) ∧ xs.length < sizeLine ∧ Q .non (upd H l (.lst (xs ++ [y])))
theorem mt_append : MtM X "list.append" rAppend := by
  intro pins s σ H x vs v us Q I rx rv h
  obtain ⟨l, xs, y, rfl, rfl, hH, hz, q⟩ := h
  cases rx
  obtain ⟨u, rfl, ru⟩ := rv.one
  obtain ⟨z, its, n, r, hl, e⟩ := I.lstM hH
  refine call_meets F.slot_list_append ⟨_, e, rfl⟩ F.entry_list_append (F.args_list_append_2 _ _) (PySem.list_append l its.toArray n u (by rw [List.size_toArray]; omega)) ⟨e, ?_⟩
  refine ⟨.non, _, I.lset (its' := its ++ [u]) hH e (by simp) (r.append (.cons ru .nil)) ?_, rfl, q⟩
  rw [List.length_append, List.length_singleton]
  omega
def rExtend : V → List V → Hp → VK → Prop := fun x vs H Q => ∃ l b xs zs, x = .ref l ∧ vs = [.ref b] ∧ H l = some (.lst xs) ∧ H b = some (.lst zs) ∧ xs.length + zs.length ≤ sizeLine ∧ Q .non (upd H l (.lst (xs ++ zs)))
theorem mt_extend : MtM X "list.extend" rExtend := by
  intro pins s σ H x vs v us Q I rx rv h
  obtain ⟨l, b, xs, zs, rfl, rfl, hH, hB, hz, q⟩ := h
  cases rx
  obtain ⟨u, rfl, ru⟩ := rv.one
  cases ru
  obtain ⟨z, its, n, r, hl, e⟩ := I.lstM hH
  obtain ⟨z2, its2, n2, r2, hl2, e2⟩ := I.lstM hB
  have hsz : its.toArray.size + its2.toArray.size ≤ sizeLine := by rw [List.size_toArray, List.size_toArray]; omega
  have hlong : ¬ (!its.toArray.isEmpty && Builtin.List.listTooLong (its.toArray.size + its2.toArray.size)) = true := by
    rw [notLongL hsz, Bool.and_false]
    exact Bool.false_ne_true
  refine call_meets F.slot_list_extend ⟨_, e, rfl⟩ F.entry_list_extend (F.args_list_extend_2 _ _)
    (AutoSeq1.list_extend_list_list_0 l its.toArray n b its2.toArray n2 hlong (by rw [List.size_toArray]; omega) (by omega)) ⟨e, e2, ?_⟩
  refine ⟨.non, _, I.lset (its' := its ++ its2) hH e (by simp) (r.append r2) ?_, rfl, q⟩
  rw [List.length_append]
  omega
def rPop : V → List V → Hp → VK → Prop := fun x vs H Q => ∃ l xs y, x = .ref l ∧ vs = [] ∧ H l = some (.lst xs) ∧ xs[xs.length - 1]? = some y ∧ Q y (upd H l (.lst xs.dropLast))
theorem mt_pop : MtM X "list.pop" rPop := by
  intro pins s σ H x vs v us Q I rx rv h
  obtain ⟨l, xs, y, rfl, rfl, hH, hy, q⟩ := h
  cases rx
  have hus := rv.zero
  subst hus
  obtain ⟨z, its, n, r, hl, e⟩ := I.lstM hH
  obtain ⟨u, hu, ru⟩ := r.get hy
  have hy' : its.toArray[its.toArray.size - 1]? = some u := by
    show its.toArray[its.length - 1]? = some u
    rw [← Array.getElem?_toList, ← hl]
    exact hu
  refine call_meets F.slot_list_pop ⟨_, e, rfl⟩ F.entry_list_pop (F.args_list_pop_1 _) (MeetsSeq.list_pop_last l its.toArray n u hy' (by rw [List.size_toArray]; omega)) ⟨e, ?_⟩
  refine ⟨y, _, I.lset (its' := its.dropLast) hH e ?_ r.dropLast ?_, ru, q⟩
  · show its.toArray.eraseIdxIfInBounds (its.toArray.size - 1) = its.dropLast.toArray
    rw [List.size_toArray, List.eraseIdxIfInBounds_toArray, erase_last]
  · rw [List.length_dropLast]
    omega
def rPopAt : V → List V → Hp → VK → Prop := fun x vs H Q => ∃ l xs i k y, x = .ref l ∧ vs = [.int i] ∧ H l = some (.lst xs) ∧ -(2 ^ 63) ≤ i ∧ i < 2 ^ 63 ∧ seqIndex? i xs.length = some k ∧ xs[k]? = some y ∧ Q y (upd H l (.lst (xs.eraseIdx k)))
def rReverse : V → List V → Hp → VK → Prop := fun x vs H Q => ∃ l xs, x = .ref l ∧ vs = [] ∧ H l = some (.lst xs) ∧ Q .non (upd H l (.lst xs.reverse))
def rClear : V → List V → Hp → VK → Prop := fun x vs H Q => ∃ l xs, x = .ref l ∧ vs = [] ∧ H l = some (.lst xs) ∧ Q .non (upd H l (.lst []))
def rCat : R2 := fun x y H Q => ∃ l b xs zs, x = .ref l ∧ y = .ref b ∧ H l = some (.lst xs) ∧ H b = some (.lst zs) ∧ xs.length + zs.length ≤ sizeLine ∧ ∀ p, H p = none → Q (.ref p) (upd H p (.lst (xs ++ zs)))
theorem op_cat : OpR X (binaryOp .Add) rCat := by
  intro pins s σ H x y v u Q I rx ry h
  obtain ⟨l, b, xs, zs, rfl, rfl, hH, hB, hz, q⟩ := h
  cases rx
  cases ry
  obtain ⟨z, its, n, r, hl, e⟩ := I.lstM hH
  obtain ⟨z2, its2, n2, r2, hl2, e2⟩ := I.lstM hB
  refine PySem.P.add_list e e2 ?_ (by rw [List.size_toArray, List.size_toArray]; omega)
  have ea : its.toArray ++ its2.toArray = (its ++ its2).toArray := by simp
  rw [ea]
  exact ⟨.ref _, _, I.lnew (t' := s.toks) (r.append r2) (by rw [List.length_append]; omega), rfl, q _ I.fresh⟩
def rRep : R2 := fun x y H Q => ∃ l k xs, x = .ref l ∧ y = .int k ∧ H l = some (.lst xs) ∧ -(2 ^ 63) ≤ k ∧ k < 2 ^ 63 ∧ xs.length * k.toNat ≤ sizeLine ∧
  ∀ p, H p = none → Q (.ref p) (upd H p (.lst (List.replicate k.toNat xs).flatten))
end
section
variable {prog : Program} {w : World} {A : Around} {E : Value → Shared → Prop} {s : Shared}
set_option maxRecDepth 100000 in
end
section
variable {X : Cx}
end
end L2
namespace Att
open PySem PySem.W PySem.Calls PyProof.Rows
theorem ints_of_wellAll {P : Params} {h : Heap} : ∀ (ns : List Int) (vs : List Value), WellAll P h vs (ns.map WData.int) → IntsAre vs ns := by
  intro ns
  induction ns with
  | nil =>
    intro vs w
    rw [List.map_nil] at w
    cases w
    exact .nil
  | cons n ns ih =>
    intro vs w
    rw [List.map_cons] at w
    cases w with
    | cons a b =>
      cases a
      exact .cons _ _ (ih _ b)
theorem script_of {l : OpenLaw} {n : Nat} (hn : l.most = some n) {P : Params} {h : Heap} {args : List WData} {vals : List Value}
    (hpre : l.row.toRowW.claim.pre args = true) (hwl : WellAll P h vals args) :
    ∃ a vs ns, vals = [Value.ref a] ∧ args = [WData.list (ns.map WData.int)] ∧ h.get? a = some { cls := .type "list", data := .seq vs.toArray } ∧ IntsAre vs ns ∧ ns.length ≤ n := by
  have hsh : WShape.hasAll [] args [.list .int] = true := (pre_splitW hpre).1
  have hc : l.pre.holds [] { args := args } = true := (pre_splitW hpre).2
  obtain ⟨d, r, rfl, h1, h2⟩ := hasAllW_cons hsh
  obtain rfl := hasAllW_nil h2
  obtain ⟨xs, rfl, h3⟩ := hasW_list h1
  obtain ⟨ns, rfl⟩ := items_int h3
  have hlen : ns.length ≤ n := by
    unfold OpenLaw.pre at hc
    have h4 : (WTm.not (.lt (.lit (.int (n : Int))) (.len (.arg 0)))).holds [] { args := [.list (ns.map .int)] } = true := by
      have h4 := (holds_andW hc).1
      rw [hn] at h4
      exact h4
    have h5 := condW_of h4 (w_not (w_lt w_lit (w_len_list (w_arg rfl))))
    rw [List.length_map] at h5
    refine Nat.le_of_not_lt fun q => ?_
    have q' : (n : Int) < ((ns.length : Nat) : Int) := by omega
    first
      | (rw [decide_eq_true q'] at h5; exact absurd h5 (by decide))
      | (simp at h5; omega)
  cases hwl with
  | cons w1 w2 =>
    cases w2
    cases w1 with
    | list ho hall => exact ⟨_, _, ns, rfl, rfl, ho, ints_of_wellAll ns _ hall, hlen⟩
theorem post_true (l : OpenLaw) (args : List WData) : l.row.toRowW.claim.post args (.bool true) args = true :=
  postW_of (r := l.row.toRowW) (X := (true == true))
    (show WShape.has [] (.bool true) .bool = true by first | rfl | decide | simp [WShape.has, WShape.arms, WShape.armsAll])
    (show (WTm.eq .res (.lit (.bool true))).value [] { args := args, res := some (.bool true), after := args } = some (.bool (true == true)) from w_eq_bool (w_res rfl) w_lit) rfl
theorem attach_call {l : OpenLaw} {n : Nat} {q : Program} {loose : List Str} {XP : (Str → Option Value) → Heap → Prop} {YP : World → Heap → Prop} {d : DefRec}
    (hn : l.most = some n) (hdf : d.params.defaults = [])
    (call : ∀ (w : World) (s₀ s₁ : Shared) (mg mb : Str → Option Value) (fa : Addr) (o : Obj) (pm cd doc : Value) (a : Addr) (vs : List Value) (ns : List Int),
      Ground q loose [] XP w s₀ mg mb s₁.heap → YP w s₁.heap →
      s₁.heap.get? fa = some o → o.data = .func (docDef d.name d.params d.body d.scope pm cd doc) → s₁.heap.CodeRec cd d.name → mg d.name = some (.ref fa) →
      s₁.heap.get? a = some { cls := .type "list", data := .seq vs.toArray } → IntsAre vs ns → ns.length ≤ n → s₁.gens = #[] →
      codeAny (model l.prog w) callerA (.call (.ref fa) ⟨[.ref a], []⟩) (fun r s' => r = .ok (.ret (.bool true)) ∧ OldK s₁.heap s'.heap ∧ s'.os = s₁.os ∧ AllBare s'.gens) s₁) :
    WalkO q loose XP YP l.row.toRowW d [] (fun f vs => PySem.call f vs) := by
  intro w s₀ s₁ mg mb G Y fa o pm cd doc dV kV ho hd hcd hD hmg hg args vals as hpre hlay hrd hwl hlo
  obtain rfl : dV = .none := Dflts.none hD hdf
  obtain rfl : kV = .none := Dflts.noKw hD
  obtain ⟨a, vs, ns, rfl, rfl, hobj, hints, hlen⟩ := script_of hn hpre hwl
  refine enter_call (codeAny_mono (call w s₀ s₁ mg mb fa o pm cd doc a vs ns G Y ho (fd_plain hd) hcd hmg hobj hints hlen hg) fun r s' hq => ?_)
  obtain ⟨rfl, h2, h3, h4⟩ := hq
  exact ⟨.inl ⟨.bool true, .bool true, [], rfl, fun _ => rfl, .bool true, post_true l _, fun _ => ⟨List.Pairwise.nil, fun _ hm => (nomatch hm)⟩⟩, h2, h3, h4⟩
section
variable {prog : Program} {w : World} {A : Around} {E : Value → Shared → Prop} {s : Shared} {K : Frag}
def noObjs (h : Heap) : Heap := { h with objs := #[] }
def ledger (h : Heap) (L d : Addr) : List (Addr × Obj) := (List.range h.objs.size).filterMap fun a => if a = L ∨ a = d then none else (h.get? a).map fun o => (a, o)
end
end Att
namespace L2
open PySem PySem.Spec PyProof.Rows
theorem vals_ints : ∀ {vs : List Value} {ns : List Int}, IntsAre vs ns → Vals (ns.map V.int) vs
  | _, _, .nil => .nil
  | _, _, .cons n t h => .cons ⟨t, rfl⟩ (vals_ints h)
def Only (H : Hp) : Prop := ∀ b, H b = none ∨ ∃ o xs, H b = some (.frz o (.lst xs))
theorem law_call {P : Program} {w : World} {K : PySem.W.Frag} {mg mb : Str → Option Value} {CX : CXT} {k : Nat} {fa a : Addr} {fd : FuncData} {x : Str} {sp : Sp} {s₁ : Shared} {vs : List Value} {ns : List Int}
    (KX : K.In s₁.heap) (hns : s₁.heap.Ns mainGlobals mg) (hb : s₁.heap.Ns builtinsNs mb) (hbb : ∀ x : Str, x ≠ "__name__" → mb x = bootBuiltins x) (hlim : s₁.heap.NoLimit) (hg : s₁.gens = #[])
    (ha : s₁.heap.get? a = some { cls := .type "list", data := .seq vs.toArray }) (hi : IntsAre vs ns) (hl : ns.length ≤ sizeLine) (hr : Room k callerA)
    (F : ∀ base : Heap, K.In base → base.Ns mainGlobals mg → FnOk P w K mg base CX k fa fd [x] sp) (hbind : ∀ (s : Shared) (u : Value), BindsTo s fd ⟨[u], []⟩ [(x, u)])
    (hsp : ∀ H : Hp, Only H → SqL K H a (ns.map V.int) → sp [.ref a] H (fun v _ => v = .bl true) fun _ _ _ => False)
    (hCX : ∀ H e s', CX [] H s₁ (fun _ _ _ => False) e s' → False) :
    codeAny (model P w) callerA (.call (.ref fa) ⟨[.ref a], []⟩) (fun r s' => r = .ok (.ret (.bool true)) ∧ OldK s₁.heap s'.heap ∧ s'.os = s₁.os ∧ AllBare s'.gens) s₁ := by
  have rv := vals_ints hi
  have lenV := hi.length
  have core : ∀ H : Hp, Only H → SqL K H a (ns.map V.int) → HOk P w H s₁.heap → (∀ b, H b ≠ none → b = a) → (H a ≠ none → K.lookup a = none) →
      codeAny (model P w) callerA (.call (.ref fa) ⟨[.ref a], []⟩) (fun r s' => r = .ok (.ret (.bool true)) ∧ OldK s₁.heap s'.heap ∧ s'.os = s₁.os ∧ AllBare s'.gens) s₁ := by
    intro H hO hS hok hA hK
    have base_of : ∀ {b : Addr} {o : Obj}, s₁.heap.get? b = some o → H b = none → (hidT s₁.heap H).get? b = some o := fun e n => hidT_get e n
    have noA : ∀ {b : Addr} {o : Obj} {es : Array DictEntry} {ep : Nat}, s₁.heap.get? b = some o → o.data = .dict es ep → H b = none := fun {b o es ep} e d => by
      cases q : H b with
      | none => rfl
      | some u =>
        have e' : b = a := hA b (by rw [q]; simp)
        subst e'
        rw [ha] at e; cases e
        have d' : Data.seq vs.toArray _ = Data.dict es ep := d
        cases d'
    have nsK : ∀ {b : Addr} {m : Str → Option Value}, s₁.heap.Ns b m → (hidT s₁.heap H).Ns b m := fun {b m} ⟨o, es, ep, e, d, r⟩ => ⟨o, es, ep, base_of e (noA e d), d, r⟩
    have hKb : K.In (hidT s₁.heap H) := fun b o e => base_of (KX b o e) (by
      cases q : H b with
      | none => rfl
      | some u =>
        have e' : b = a := hA b (by rw [q]; simp)
        subst e'
        rw [hK (by rw [q]; simp)] at e; cases e)
    have hM : Mod K mg (hidT s₁.heap H) := ⟨hKb, nsK hns, ⟨mb, nsK hb, hbb⟩, let ⟨mc, h1, h2⟩ := hlim; ⟨mc, nsK h1, h2⟩⟩
    have e0 : Env0 P w K mg (hidT s₁.heap H) callerA [] s₁ H := ⟨rfl, hM, fun b o e => of_hidT e, Nat.le_of_eq (hidT_size _ _), trivial, fun b hb => absurd (show b ∈ ([] : List Addr) from hb) (by simp), hok, .of_eq hg⟩
    refine codeAny_mono ((F _ hKb (nsK hns)).run callerA [] s₁ H ⟨[.ref a], []⟩ [.ref a] [.ref a] _ _ hr e0 (hbind s₁ (.ref a)) (.cons rfl .nil) (hsp H hO hS)) fun r s' h => ?_
    cases r with
    | error e => exact (hCX H e s' h).elim
    | ok fl =>
      cases fl with
      | next => exact False.elim h
      | brk => exact False.elim h
      | cont => exact False.elim h
      | ret u =>
        obtain ⟨v, H', os, bare, un, hok', r', q⟩ := h
        have q' : v = .bl true := q
        subst q'
        obtain rfl : u = Value.bool true := r'
        refine ⟨rfl, OldK.of_keep fun b o e => ?_, os, bare⟩
        cases q : H b with
        | none => exact un.keep b o e q (by intro z; exact absurd (show b ∈ ([] : List Addr) from z) (by simp)) (by simp)
        | some u =>
          rcases hO b with z | ⟨ob, xs, z⟩
          · rw [q] at z; cases z
          · have z2 := un.frzs b ob _ z
            obtain ⟨e1, _⟩ := hok b _ z
            obtain ⟨e2, _⟩ := hok' b _ z2
            rw [e] at e1; cases e1
            exact e2
  cases hk : K.lookup a with
  | some o =>
    have e := KX a o hk
    rw [ha] at e
    cases e
    refine core (fun _ => none) (fun _ => .inl rfl) (.inr ⟨_, vs.toArray, _, hk, rfl, rfl, rfl, by rw [List.size_toArray, lenV]; exact hl, by simpa using rv⟩) (fun b u z => by have z' : (none : Option HO) = some u := z; cases z') (fun b z => absurd rfl z) fun z => absurd rfl z
  | none =>
    refine core (fun b => if b = a then some (.frz { cls := .type "list", data := .seq vs.toArray } (.lst (ns.map V.int))) else none) (fun b => ?_) (.inl (.inr ⟨{ cls := .type "list", data := .seq vs.toArray }, if_pos rfl⟩)) (fun b u z => ?_) (fun b z => ?_) fun _ => hk
    · by_cases hb : b = a
      · exact .inr ⟨_, _, if_pos hb⟩
      · exact .inl (if_neg hb)
    · by_cases hb : b = a
      · have z' := (if_pos hb).symm.trans z
        cases z'
        subst hb
        exact ⟨ha, by rw [List.length_map]; exact hl, vs, _, rv, ha⟩
      · have z' := (if_neg hb).symm.trans z
        cases z'
    · by_cases hb : b = a
      · exact hb
      · exact absurd (if_neg hb) z
end L2
namespace L2
open PySem PySem.Spec PyProof.Rows
abbrev KOf {K : PySem.W.Frag} {h : Heap} (_ : K.In h) : PySem.W.Frag := K
theorem walk_of {l : PySem.W.OpenLaw} {n k : Nat} {q : Program} {loose : List Str} {XP : (Str → Option Value) → Heap → Prop} {YP : World → Heap → Prop} {d : DefRec} {K : Params → PySem.W.Frag} {CX : World → CXT} {sp : World → Sp} {x : Str}
    (hn : l.most = some n) (hn2 : n ≤ sizeLine) (hdf : d.params.defaults = []) (hr : Room k callerA)
    (hY : ∀ (w : World) (h : Heap), YP w h → (K w.params).In h)
    (F : ∀ (w : World) (mg : Str → Option Value) (fa : Addr) (h : Heap), (K w.params).In h → h.Ns mainGlobals mg → mg d.name = some (.ref fa) →
      ∃ fd : FuncData, (∀ (s : Shared) (u : Value), BindsTo s fd ⟨[u], []⟩ [(x, u)]) ∧
        ∀ base : Heap, (K w.params).In base → base.Ns mainGlobals mg → FnOk l.prog w (K w.params) mg base (CX w) k fa fd [x] (sp w))
    (hsp : ∀ (w : World) (H : Hp) (a : Addr) (ns : List Int), ns.length ≤ n → Only H → SqL (K w.params) H a (ns.map V.int) → sp w [.ref a] H (fun v _ => v = .bl true) fun _ _ _ => False)
    (hCX : ∀ (w : World) (H : Hp) (s : Shared) (e : Value) (s' : Shared), CX w [] H s (fun _ _ _ => False) e s' → False) :
    PySem.W.WalkO q loose XP YP l.row.toRowW d [] (fun f vs => PySem.call f vs) := by
  refine Att.attach_call hn hdf fun w s₀ s₁ mg mb fa o pm cd doc a vs ns G Y ho hd hcd hmg hobj hints hlen hg => ?_
  have KX := hY w _ Y
  obtain ⟨fd, hb, hF⟩ := F w mg fa _ KX G.T.g hmg
  exact law_call KX G.T.g G.T.b G.T.builtins G.T.nolimit hg hobj hints (Nat.le_trans hlen hn2) hr hF hb (fun H hO hS => hsp w H a ns hlen hO hS) fun H e s' => hCX w H s₁ e s'
end L2
/- THE LAST THEOREM (shape; LID, My.* are yours):
   My.Adr: a structure of the addresses that your layer names (classes, functions); My.Txt K t: a structure (Prop) of the equations over K;
   My.txt_mk : {K} {implicit addresses ..} (e1 : nsIn K mainGlobals "law" = some (some (.ref f))) (e2 : K.lookup f = some ⟨oc, od, .func (fnOf "law" "law" params body scope dV kV doc pm an cdv ct), sl⟩) (e3 : codeIn K cdv "law" = true) .. : ∃ t, My.Txt K t
set_option maxRecDepth 100000 in
set_option maxHeartbeats 0 in
(the tactic k_is has no namespace: write k_is) -/
namespace L2
open PySem PySem.Spec PyProof.Rows
def inClass (s : Stmt) (j : Nat) : Stmt := match s with
  | .ClassDef _ _ _ body _ _ _ _ _ _ _ => body.getD j (.Pass ⟨0, 0, 0, 0⟩)
  | _ => .Pass ⟨0, 0, 0, 0⟩
def defArgs (s : Stmt) : Arguments := match s with
  | .FunctionDef _ a _ _ _ _ _ _ _ _ => a
  | _ => { posonlyargs := [], args := [], vararg := none, kwonlyargs := [], kw_defaults := [], kwarg := none, defaults := [] }
def defBody (s : Stmt) : List Stmt := match s with
  | .FunctionDef _ _ b _ _ _ _ _ _ _ => b
  | _ => []
def defScope (s : Stmt) : Scope := match s with
  | .FunctionDef _ _ _ _ _ _ sc _ _ _ => sc
  | _ => { kind := .function, names := [], isGenerator := false, isCoroutine := false }
abbrev CX0 : CXT := fun _ _ _ _ _ _ => False
abbrev E0 : XK := fun _ _ _ => False
structure Fun (K : PySem.W.Frag) (x qual : Str) (st : Stmt) (f : Addr) (fd : FuncData) : Prop where
  ex : ∃ (oc : Value) (od : Option Addr) (kV doc pm : Value) (an : Option Addr) (cdv ct : Value) (osl : Array (Option Value)),
    fd = PySem.W.fnOf x qual (defArgs st) (defBody st) (defScope st) .none kV doc pm an cdv ct ∧ K.lookup f = some ⟨oc, od, .func fd, osl⟩ ∧ PySem.W.codeIn K cdv qual = true
  kp : PySem.W.keepIn K (.ref f) = true
section
variable {P : Program} {w : World} {K : PySem.W.Frag} {mg : Str → Option Value} {base : Heap}
theorem Fun.binds {x qual : Str} {st : Stmt} {f : Addr} {fd : FuncData} {ps : List Str} (F : Fun K x qual st f fd)
    (h : ∀ (kV doc pm : Value) (an : Option Addr) (cdv ct : Value) (us : List Value), us.length = ps.length → bindArgs (PySem.W.fnOf x qual (defArgs st) (defBody st) (defScope st) .none kV doc pm an cdv ct) ⟨us, []⟩ = pure (ps.zip us)) : Binds K fd ps [] := by
  obtain ⟨oc, od, kV, doc, pm, an, cdv, ct, osl, rfl, lk, hcd⟩ := F.ex
  exact .all (h kV doc pm an cdv ct)
theorem fun_mk {x qual : Str} {st : Stmt} {f : Addr} {oc : Value} {od an : Option Addr} {osl : Array (Option Value)} {kV doc pm cdv ct : Value} (l : K.lookup f = some ⟨oc, od, .func (PySem.W.fnOf x qual (defArgs st) (defBody st) (defScope st) .none kV doc pm an cdv ct), osl⟩)
    (c : PySem.W.codeIn K cdv qual = true) (k : PySem.W.keepIn K (.ref f) = true) : Fun K x qual st f (PySem.W.fnOf x qual (defArgs st) (defBody st) (defScope st) .none kV doc pm an cdv ct) := ⟨⟨oc, od, kV, doc, pm, an, cdv, ct, osl, rfl, l, c⟩, k⟩
end
section
variable {X : Cx}
end
def Same (H H' : Hp) : Prop := ∀ b o, H b = some o → H' b = some o
theorem Same.refl (H : Hp) : Same H H := fun _ _ h => h
theorem Same.trans {H H1 H2 : Hp} (a : Same H H1) (b : Same H1 H2) : Same H H2 := fun c o h => b c o (a c o h)
theorem Same.seq {K : PySem.W.Frag} {H H' : Hp} {a : Addr} {xs : List V} (e : Same H H') (h : SqL K H a xs) : SqL K H' a xs := by
  rcases h with (h | ⟨o, h⟩) | h
  · exact .inl (.inl (e _ _ h))
  · exact .inl (.inr ⟨o, e _ _ h⟩)
  · exact .inr h
end L2
section
set_option Elab.async false
set_option linter.all false
set_option maxRecDepth 100000
namespace L2
open PySem PySem.Spec PyProof.Rows
section
variable {κ : Type} [DecidableEq κ]
def valV (kvs : List (κ × V)) (k : κ) : Option V := (kvs.find? fun kv => decide (kv.1 = k)).map (·.2)
def putK (kvs : List (κ × V)) (k : κ) (v : V) : List (κ × V) :=
  if (kvs.any fun kv => decide (kv.1 = k)) = true then kvs.map (fun kv => if kv.1 = k then (kv.1, v) else kv) else kvs ++ [(k, v)]
def dropK (kvs : List (κ × V)) (k : κ) : List (κ × V) := kvs.filter fun kv => decide (kv.1 ≠ k)
end
abbrev KT (H : Hp) : List (List Key × V) → List (List Key × Addr × Value) → Prop := Paired fun p q => p.1 = q.1 ∧ H q.2.1 = some (.tup (p.1.map kV)) ∧ RelV p.2 q.2.2
section
variable {P : Program} {w : World} {H : Hp} {h : Heap} {a : Addr}
end
def DGet (H : Hp) (a : Addr) (y : V) (r : Option V) : Prop :=
  (∃ kvs k, Rd H a (.dK kvs) ∧ y = kV k ∧ r = valV kvs k) ∨ ∃ kvs k b, Rd H a (.dT kvs) ∧ y = .ref b ∧ H b = some (.tup (k.map kV)) ∧ r = valV kvs k
def DPut (H : Hp) (a : Addr) (y v : V) (H' : Hp) : Prop :=
  (∃ kvs k, H a = some (.dK kvs) ∧ y = kV k ∧ kvs.length < sizeLine ∧ H' = upd H a (.dK (putK kvs k v))) ∨
  ∃ kvs k b, H a = some (.dT kvs) ∧ y = .ref b ∧ H b = some (.tup (k.map kV)) ∧ kvs.length < sizeLine ∧ H' = upd H a (.dT (putK kvs k v))
section
variable {X : Cx} {pins : List (Addr × Obj)} {σ : St} {H : Hp} {s : Shared} {a : Addr} {y v : V} {u r : Value} {o : Option V} {A : Around} {E : Value → Shared → Prop}
end
section
variable {X : Cx} {pins : List (Addr × Obj)} {σ : St} {H : Hp} {s : Shared} {a : Addr} {kvs : List (Key × V)} {k : Key} {u : Value} {A : Around} {E : Value → Shared → Prop}
end
def NoSl (i : Expr) : Prop := ∀ ov iv, subscripted i false ov iv = operate [ov, iv] (getItem ov iv)
def tDGet (td ty : TE) : TE := fun σ H Q => td σ H fun x H1 => ty σ H1 fun y H2 => ∃ a v, x = .ref a ∧ DGet H2 a y (some v) ∧ Q v H2
def tDIn (ty td : TE) : TE := fun σ H Q => ty σ H fun y H1 => td σ H1 fun x H2 => ∃ a o, x = .ref a ∧ DGet H2 a y o ∧ Q (.bl o.isSome) H2
def tDNotIn (ty td : TE) : TE := fun σ H Q => ty σ H fun y H1 => td σ H1 fun x H2 => ∃ a o, x = .ref a ∧ DGet H2 a y o ∧ Q (.bl (!o.isSome)) H2
def sDPut (td ty tv : TE) : TS := fun D σ H => tv σ H fun v H1 => td σ H1 fun x H2 => ty σ H2 fun y H3 => ∃ a H4, x = .ref a ∧ DPut H3 a y v H4 ∧ D.nx σ H4
def sDAug (td ty tv : TE) (rd : V → V → Hp → VK → Prop) : TS := fun D σ H => td σ H fun x H1 => ty σ H1 fun y H2 => ∃ a v, x = .ref a ∧ DGet H2 a y (some v) ∧
  tv σ H2 fun y2 H3 => rd v y2 H3 fun z H4 => ∃ H5, DPut H4 a y z H5 ∧ D.nx σ H5
def sDDel (td ty : TE) : TS := fun D σ H => td σ H fun x H1 => ty σ H1 fun y H2 => ∃ a kvs k, x = .ref a ∧ H2 a = some (.dK kvs) ∧ y = kV k ∧ (valV kvs k).isSome = true ∧ D.nx σ (upd H2 a (.dK (dropK kvs k)))
section
variable {X : Cx} {o i e value : Expr} {pos pos' tpos : Pos} {td ty tv : TE}
end
def tDNewK : TE := fun _ H Q => ∀ p, H p = none → Q (.ref p) (upd H p (.dK []))
def tDNewT : TE := fun _ H Q => ∀ p, H p = none → Q (.ref p) (upd H p (.dT []))
section
variable {X : Cx} {pos : Pos}
end
def tPairs : List (TE × TE) → St → Hp → (List (V × V) → Hp → Prop) → Prop
  | [], _, H, Q => Q [] H
  | (tk, tv) :: r, σ, H, Q => tk σ H fun x H1 => tv σ H1 fun y H2 => tPairs r σ H2 fun ps H3 => Q ((x, y) :: ps) H3
abbrev VV : List (V × V) → List (Value × Value) → Prop := Paired fun p q => RelV p.1 q.1 ∧ RelV p.2 q.2
def PPs (X : Cx) (pos : Pos) (keys : List (Option Expr)) (values : List Expr) (trs : List (TE × TE)) : Prop :=
  ∀ (pins : List (Addr × Obj)) (s : Shared) (σ : St) (H : Hp) (Q : List (V × V) → Hp → Prop), Inv X pins σ H s → tPairs trs σ H Q →
    wpAny (model X.prog X.w) X.A (evalPairs (pairTrees keys values X.env pos)) (fun vs s' => ∃ ps H', Inv X pins σ H' s' ∧ VV ps vs ∧ Q ps H') X.xe s
def mergeK (kvs more : List (Key × V)) : List (Key × V) := more.foldl (fun acc kv => putK acc kv.1 kv.2) kvs
def tDisp (trs : List (TE × TE)) : TE := fun σ H Q => ∀ p, H p = none → tPairs trs σ (upd H p (.dK [])) fun ps H2 => H2 p = some (.dK []) ∧ ∃ kvs : List (Key × V), ps = kvs.map (fun kv => (kV kv.1, kv.2)) ∧ kvs.length ≤ 15 ∧ Q (.ref p) (upd H2 p (.dK (mergeK [] kvs)))
structure M1 (X : Cx) (o : Expr) (m : Str) (apos : Pos) (e : Expr) (cpos : Pos) : Prop where
  base : attributeBase o m X.env (eval o X.env) = eval o X.env
  few : ((backTo cpos (starEach [e] X.env)).all (fun x => !x.1) && (backToKw cpos (keywordEach [] X.env)).all (fun x => x.1.isSome)
    && decide (([e] : List Expr).length + ([] : List Keyword).length + (if ([] : List Keyword).isEmpty then 0 else 1) < 30)) = true
  line : (apos.endLine == cpos.line) = true
  trees : backTo cpos (starEach [e] X.env) = [(false, eval e X.env)]
structure M2 (X : Cx) (o : Expr) (m : Str) (apos : Pos) (e f : Expr) (cpos : Pos) : Prop where
  base : attributeBase o m X.env (eval o X.env) = eval o X.env
  few : ((backTo cpos (starEach [e, f] X.env)).all (fun x => !x.1) && (backToKw cpos (keywordEach [] X.env)).all (fun x => x.1.isSome)
    && decide (([e, f] : List Expr).length + ([] : List Keyword).length + (if ([] : List Keyword).isEmpty then 0 else 1) < 30)) = true
  line : (apos.endLine == cpos.line) = true
  trees : backTo cpos (starEach [e, f] X.env) = [(false, eval e X.env), (false, eval f X.env)]
def IsD (H : Hp) (a : Addr) : Prop := (∃ kvs, Rd H a (.dK kvs)) ∨ ∃ kvs, Rd H a (.dT kvs)
section
variable {X : Cx} {pins : List (Addr × Obj)} {σ : St} {H : Hp} {s : Shared} {a : Addr} {y d : V} {u r : Value} {o : Option V} {A : Around} {E : Value → Shared → Prop}
end
def tDGet1 (td ty : TE) : TE := fun σ H Q => td σ H fun x H1 => ∃ a, x = .ref a ∧ IsD H1 a ∧ ty σ H1 fun y H2 => ∃ o, DGet H2 a y o ∧ Q (o.getD .non) H2
def tDGet2 (td ty tx : TE) : TE := fun σ H Q => td σ H fun x H1 => ∃ a, x = .ref a ∧ IsD H1 a ∧ ty σ H1 fun y H2 => tx σ H2 fun z H3 => ∃ o, DGet H3 a y o ∧ Q (o.getD z) H3
def tDPop1 (td ty : TE) : TE := fun σ H Q => td σ H fun x H1 => ∃ a, x = .ref a ∧ IsD H1 a ∧ ty σ H1 fun y H2 => ∃ kvs k v, H2 a = some (.dK kvs) ∧ y = kV k ∧ valV kvs k = some v ∧ Q v (upd H2 a (.dK (dropK kvs k)))
def tDPop2 (td ty tx : TE) : TE := fun σ H Q => td σ H fun x H1 => ∃ a, x = .ref a ∧ IsD H1 a ∧ ty σ H1 fun y H2 => tx σ H2 fun z H3 => ∃ kvs k, H3 a = some (.dK kvs) ∧ y = kV k ∧
  (∀ v, valV kvs k = some v → Q v (upd H3 a (.dK (dropK kvs k)))) ∧ (valV kvs k = none → Q z H3)
section
variable {X : Cx} {o e f : Expr} {apos cpos : Pos} {td ty tx : TE}
end
section
variable {X : Cx} {pins : List (Addr × Obj)} {σ : St} {H : Hp} {s : Shared} {a : Addr} {kvs : List (Key × V)} {A : Around} {E : Value → Shared → Prop}
end
section
variable {X : Cx} {pins : List (Addr × Obj)} {σ : St} {H : Hp} {s : Shared} {a : Addr} {y : V} {u : Value} {A : Around} {E : Value → Shared → Prop}
end
end L2
namespace L2
open PySem PySem.Spec PyProof.Rows
section
variable {X : Cx}
end
section
variable {κ : Type} [DecidableEq κ]
end
end L2
end
section
set_option Elab.async false
set_option linter.all false
set_option maxRecDepth 100000
set_option maxHeartbeats 4000000
namespace Lw
open PySem PySem.Spec PyProof.Rows L2
theorem obj_some {P : Program} {w : World} {H : Hp} {h : Heap} {a : Addr} {o : HO} (x : ObjOk P w H h a o) : ∃ u, h.get? a = some u := by
  cases o with
  | lst xs => obtain ⟨_, _, _, _, e⟩ := x; exact ⟨_, e⟩
  | tup xs => obtain ⟨_, _, _, o, e, _⟩ := x; exact ⟨_, e⟩
  | dK kvs => obtain ⟨_, _, _, _, o, _, _, e, _⟩ := x; exact ⟨_, e⟩
  | dT kvs => obtain ⟨_, _, _, _, o, _, _, e, _⟩ := x; exact ⟨_, e⟩
  | set S n => obtain ⟨o, _, _, _, e, _⟩ := x; exact ⟨_, e⟩
  | ins C dx fs => obtain ⟨_, _, _, e, _⟩ := x; exact ⟨_, e⟩
  | own y => exact x
  | xd fs => obtain ⟨_, ⟨_, _, _, e, _⟩, _⟩ := x; exact ⟨_, e⟩
  | rng lo hi => obtain ⟨_, _, _, e⟩ := x; exact ⟨_, e⟩
  | frz ob u => exact ⟨_, x.1⟩
  | tbl ps => exact ⟨_, x⟩
  | met f y => exact ⟨_, x⟩
  | ext φ => exact x.2.1
structure Fly (P : Program) (w : World) (outer : List Env) (H : Hp) (s : Shared) (H' : Hp) (a : Addr) (cls : Value) (B : Heap) (a0 : Value) (s' : Shared) : Prop where
  os : s'.os = s.os
  bare : AllBare s'.gens
  un : Un (frs outer) [] H H' s.heap s'.heap
  hok : HOk P w H' s'.heap
  fresh : s.heap.get? a = none
  free : H' a = none
  fly : Heap.FlyingW B outer a cls a0 s'.heap
  trk : ∀ b o, H' b ≠ none → s'.heap.get? b = some o → B.get? b = some o
  old : ∀ b o, s.heap.get? b = some o → H b = none → b ∉ frs outer → B.get? b = some o
  any : ∀ b o, s.heap.get? b = some o → b ∉ frs outer → ∃ o', B.get? b = some o'
section
variable {P : Program} {w : World} {outer : List Env} {H H' : Hp} {s s' : Shared} {a : Addr} {cls a0 : Value} {B h5 : Heap}
theorem Fly.slots (F : Fly P w outer H s H' a cls B a0 s') (U : s'.heap.UpToSlots h5) {b : Addr} {o : Obj} (hb : b ∈ frs outer) (e : s'.heap.get? b = some o) : ∃ sl, h5.get? b = some { o with slots := sl } := by
  obtain ⟨_, o', e', nf⟩ := F.fly.2.2.1.mem hb
  rw [e] at e'
  cases e'
  exact U b o e nf
theorem Fly.un5 (F : Fly P w outer H s H' a cls B a0 s') (St : B.StaysIn h5) (U : s'.heap.UpToSlots h5) : Un (frs outer) [] H H' s.heap h5 where
  keep := fun b o e n hb _ => St b o (F.old b o e n hb)
  slot := fun b o e n hb hx => by
    obtain ⟨sl, e1⟩ := F.un.slot b o e n hb hx
    obtain ⟨sl2, e2⟩ := F.slots U hb e1
    exact ⟨sl2, e2⟩
  free := F.un.free
  there := fun b o e hx => by
    by_cases hb : b ∈ frs outer
    · obtain ⟨o', e1⟩ := F.un.there b o e hx
      obtain ⟨sl, e2⟩ := F.slots U hb e1
      exact ⟨_, e2⟩
    · obtain ⟨o', e1⟩ := F.any b o e hb
      exact ⟨o', St b o' e1⟩
  tups := F.un.tups
  frzs := F.un.frzs
  tbls := F.un.tbls
theorem Fly.hok5 (F : Fly P w outer H s H' a cls B a0 s') (St : B.StaysIn h5) : HOk P w H' h5 := fun b u e => by
  refine (F.hok b u e).stay (fun c v hc q => St c v (F.trk c v ?_ q)) (fun _ q => q) fun _ _ q => q
  rcases hc with z | z
  · rw [z, e]; simp
  · rw [z]; simp
theorem Fly.trk5 (F : Fly P w outer H s H' a cls B a0 s') (St : B.StaysIn h5) : ∀ b o, H' b ≠ none → h5.get? b = some o → B.get? b = some o := fun b o n e => by
  cases q : H' b with
  | none => exact absurd q n
  | some u =>
    obtain ⟨o1, e1⟩ := obj_some (F.hok b u q)
    have e2 := F.trk b o1 n e1
    have e3 := St b o1 e2
    rw [e] at e3
    cases e3
    exact e2
end
structure DefCx (X : Cx) : Prop where
  stk : X.stack = X.env :: X.outer
  fr : X.env.frame = some X.env.locals
  ex : X.ex = []
section
variable {X : Cx} {pins : List (Addr × Obj)} {σ : L2.St} {H H' : Hp} {s s' : Shared} {M : Model} {E : Value → Shared → Prop} {Q : Unit → Shared → Prop}
theorem not_stk (I : Inv X pins σ H s) {b : Addr} {o : Obj} (e : X.s₀.heap.get? b = some o) (hb : b ∉ X.fs) : b ∉ frs X.stack := fun z => by
  rcases List.mem_cons.mp (I.stkSub b z) with q | q
  · subst q
    exact Nat.lt_irrefl _ (Nat.lt_of_lt_of_le (Heap.lt_size e) I.ok.above)
  · exact hb q
theorem fresh_of (D : DefCx X) (I : Inv X pins σ H s) {a : Addr} (n : s.heap.get? a = none) : X.s₀.heap.get? a = none := by
  cases q : X.s₀.heap.get? a with
  | none => rfl
  | some o =>
    obtain ⟨o', e⟩ := I.base.there a o q (by rw [D.ex]; simp)
    rw [n] at e
    cases e
theorem fly_on {a : Addr} {cls a0 : Value} {B : Heap} (D : DefCx X) (I : Inv X pins σ H s) (F : Fly X.prog X.w X.stack H s H' a cls B a0 s')
    (k : ∀ s'', Fly X.prog X.w X.outer X.H₀ X.s₀ H' a cls B a0 s'' → Q () s'') : wpAny M X.A (leaving X.env (.ref a)) Q E s' := by
  have hfr : X.A.frames = some (X.env :: X.outer) := by rw [I.ok.frames, D.stk]
  have hfl := F.fly
  rw [D.stk] at hfl
  have hex : ∀ b : Addr, b ∉ X.ex := fun b => by rw [D.ex]; simp
  refine wpAny_leaves_onW hfr D.fr hfl fun h5 f5 u5 => k _ ?_
  have I5 : Inv X pins σ H' { s' with heap := h5 } := I.call' (s' := { s' with heap := h5 }) (ch := []) F.os (F.un5 f5.1 u5) (F.hok5 f5.1) F.bare fun b hb => absurd hb (by simp)
  refine ⟨I5.os, I5.bare, ?_, I5.hok, fresh_of D I F.fresh, F.free, f5, F.trk5 f5.1, fun b o e n hb => ?_, fun b o e hb => ?_⟩
  · have u := I5.base
    rw [D.ex] at u
    exact u
  · exact F.old b o (I.base.keep b o e n hb (hex b)) (I.base.free b o e n (hex b)) (not_stk I e hb)
  · obtain ⟨o1, e1⟩ := I.base.there b o e (hex b)
    exact F.any b o1 e1 (not_stk I e hb)
theorem fly_made {h' : Heap} {e : Addr} {cls : Value} {vs : List Value} (D : DefCx X) (I : Inv X pins σ H s) (hx : Heap.MadeExcOf s.heap h' e cls vs)
    (k : ∀ s'' B a0, Fly X.prog X.w X.outer X.H₀ X.s₀ H e cls B a0 s'' → Q () s'') : wpAny M X.A (leaving X.env (.ref e)) Q E { s with heap := h' } := by
  have hfr : X.A.frames = some (X.env :: X.outer) := by rw [I.ok.frames, D.stk]
  have hex : ∀ b : Addr, b ∉ X.ex := fun b => by rw [D.ex]; simp
  have hB : ∀ b o, s.heap.get? b = some o → b ∉ frs X.stack → (PySem.W.hideAll s.heap (frs X.stack)).get? b = some o := fun b o q nm => PySem.W.hideAll_get _ q nm
  have hl : s.heap.FunFrames (PySem.W.hideAll s.heap (frs X.stack)) (X.env :: X.outer) := by
    have z := PySem.W.funFrames_hide (as := frs X.stack) I.stack fun env he b hb => List.mem_filterMap.mpr ⟨env, he, hb⟩
    rw [D.stk] at z ⊢
    exact z
  have tn : ∀ b, H b ≠ none → b ∉ frs X.stack := fun b n z => n (I.stkFree b z)
  refine wpAny_leaves_madeW (s := { s with heap := h' }) hfr D.fr (fun b o q => PySem.W.of_hideAll _ q) hl hx fun h5 t f5 _ _ u5 => k _ (PySem.W.hideAll s.heap (frs X.stack)) (.ref t) ?_
  have St := f5.1
  have un5 : Un (frs X.stack) [] H H s.heap h5 := by
    have sl : ∀ b o, s.heap.get? b = some o → b ∈ frs X.stack → ∃ sl, h5.get? b = some { o with slots := sl } := fun b o e hb => by
      obtain ⟨_, o', e', nf⟩ := I.stack.mem hb
      rw [e] at e'
      cases e'
      exact u5 b o (hx.keeps b o e) nf
    refine ⟨fun b o e n hb _ => St b o (hB b o e hb), fun b o e n hb _ => sl b o e hb, fun _ _ _ n _ => n, fun b o e _ => ?_, fun _ _ q => q, fun _ _ _ q => q, fun b ps q => ⟨#[], by rw [q]; simp⟩⟩
    by_cases hb : b ∈ frs X.stack
    · obtain ⟨z, e1⟩ := sl b o e hb
      exact ⟨_, e1⟩
    · exact ⟨o, St b o (hB b o e hb)⟩
  have hok5 : HOk X.prog X.w H h5 := fun b u e => by
    refine (I.hok b u e).stay (fun c v hc q => St c v (hB c v q (tn c ?_))) (fun _ q => q) fun _ _ q => q
    rcases hc with z | z
    · rw [z, e]; simp
    · rw [z]; simp
  have I5 : Inv X pins σ H { s with heap := h5 } := I.call' (s' := { s with heap := h5 }) (ch := []) rfl un5 hok5 I.bare fun b hb => absurd hb (by simp)
  refine ⟨I5.os, I5.bare, ?_, hok5, fresh_of D I hx.new, ?_, f5, fun b o n q => ?_, fun b o e n hb => ?_, fun b o e hb => ?_⟩
  · have u := I5.base
    rw [D.ex] at u
    exact u
  · cases q : H e with
    | none => rfl
    | some u =>
      obtain ⟨o, z⟩ := obj_some (I.hok e u q)
      rw [hx.new] at z
      cases z
  · cases z : H b with
    | none => exact absurd z n
    | some u =>
      obtain ⟨o1, e1⟩ := obj_some (I.hok b u z)
      have e2 := hB b o1 e1 (tn b n)
      have e3 := St b o1 e2
      have q' : h5.get? b = some o := q
      rw [q'] at e3
      cases e3
      exact e2
  · exact hB b o (I.base.keep b o e n hb (hex b)) (not_stk I e hb)
  · obtain ⟨o1, e1⟩ := I.base.there b o e (hex b)
    exact ⟨o1, hB b o1 e1 (not_stk I e hb)⟩
end
def CXE (P : Program) (w : World) : CXT := fun outer H s E e s' => ∃ a cls H' B a0, e = .ref a ∧ Fly P w outer H s H' a cls B a0 s' ∧ E cls none H'
theorem cxe0 {P : Program} {w : World} {outer : List Env} {H : Hp} {s s' : Shared} {e : Value} (h : CXE P w outer H s (fun _ _ _ => False) e s') : False := by
  obtain ⟨_, _, _, _, _, _, _, z⟩ := h
  exact z
theorem passX0 {X : Cx} : Passes (CXE X.prog X.w) X E0 := fun _ _ _ _ _ _ _ h => (cxe0 h).elim
section
variable {P : Program} {w : World} {K : PySem.W.Frag} {mg : Str → Option Value} {base : Heap} {N : List Str} {qual : Str} {scope : Scope} {f : Addr} {cd : Value} {A : Around} {outer : List Env} {s₀ : Shared} {H₀ : Hp} {E : XK}
theorem passX : Passes (CXE P w) (cxOf (CXE P w) P w K mg base N qual scope f cd A outer s₀ H₀ E) E := by
  intro pins σ H1 s1 e s' I h
  obtain ⟨a, cls, H', B, a0, rfl, F, q⟩ := h
  exact fly_on (X := cxOf (CXE P w) P w K mg base N qual scope f cd A outer s₀ H₀ E) ⟨rfl, rfl, rfl⟩ I F fun s'' F' => ⟨a, cls, H', B, a0, rfl, F', q⟩
theorem raiseX {pins : List (Addr × Obj)} {σ : L2.St} {H : Hp} {s : Shared} {h' : Heap} {e : Addr} {cls : Value} {vs : List Value} (I : Inv (cxOf (CXE P w) P w K mg base N qual scope f cd A outer s₀ H₀ E) pins σ H s) (hx : Heap.MadeExcOf s.heap h' e cls vs) (q : E cls none H) :
    (cxOf (CXE P w) P w K mg base N qual scope f cd A outer s₀ H₀ E).xe (.ref e) { s with heap := h' } :=
  fly_made (X := cxOf (CXE P w) P w K mg base N qual scope f cd A outer s₀ H₀ E) ⟨rfl, rfl, rfl⟩ I hx fun s'' B a0 F' => ⟨e, cls, H, B, a0, rfl, F', q⟩
end
end Lw
end
section
set_option Elab.async false
set_option linter.all false
set_option maxRecDepth 100000
set_option maxHeartbeats 4000000
namespace Lw
open PySem PySem.Spec PyProof.Rows L2
def Br (b : Bool) (A B : Prop) : Prop := (b = true → A) ∧ (b = false → B)
theorem br_eq (b : Bool) (A B : Prop) : Br b A B = (if b = true then A else B) := by
  unfold Br
  cases b <;> simp
def dVar (i : Nat) : TE := fun σ H Q => match σ[i]? with
  | some (some v) => Q v H
  | _ => False
theorem dVar_eq (i : Nat) : dVar i = tVar i := by
  funext σ H Q
  apply propext
  unfold dVar tVar
  cases h : σ[i]? with
  | none => simp
  | some o => cases o <;> simp
def dI (C : Int → Int → Prop) (g : Int → Int → V) : R2 := fun x y H Q => match x, y with
  | .int i, .int j => C i j ∧ Q (g i j) H
  | _, _ => False
def dI0 (g : Int → Int → V) : R2 := fun x y H Q => match x, y with
  | .int i, .int j => Q (g i j) H
  | _, _ => False
def dU (g : Int → V) : V → Hp → VK → Prop := fun x H Q => match x with
  | .int i => Q (g i) H
  | _ => False
def dTest (t : TE) : TT := fun σ H Q => t σ H fun x H' => match x with
  | .bl k => Q k H'
  | _ => False
theorem dTest_eq (t : TE) : dTest t = tTest t := by
  funext σ H Q
  unfold dTest tTest
  congr 1
  funext x H'
  apply propext
  cases x <;> simp
theorem dTest_eqB (t : TE) : dTest t = tB t := dTest_eq t
def dAnd (t u : TT) : TT := fun σ H Q => t σ H fun c H1 => Br c (u σ H1 Q) (Q false H1)
def dOr (t u : TT) : TT := fun σ H Q => t σ H fun c H1 => Br c (Q true H1) (u σ H1 Q)
theorem dAnd_eq (t u : TT) : dAnd t u = tAnd t u := by
  funext σ H Q
  unfold dAnd tAnd
  simp only [br_eq]
theorem dOr_eq (t u : TT) : dOr t u = tOr t u := by
  funext σ H Q
  unfold dOr tOr
  simp only [br_eq]
def dAndV (ta tb : TE) : TE := fun σ H Q => ta σ H fun x H1 => match x with
  | .bl c => Br c (tb σ H1 Q) (Q (.bl false) H1)
  | _ => False
def dOrV (ta tb : TE) : TE := fun σ H Q => ta σ H fun x H1 => match x with
  | .bl c => Br c (Q (.bl true) H1) (tb σ H1 Q)
  | _ => False
def dNotV (ta : TE) : TE := fun σ H Q => ta σ H fun x H1 => match x with
  | .bl c => Q (.bl (!c)) H1
  | _ => False
theorem dAndV_eq (t u : TE) : dAndV t u = tAndV t u := by
  funext σ H Q
  unfold dAndV tAndV
  congr 1
  funext x H'
  apply propext
  cases x <;> simp [br_eq]
def dIfS (c : TT) (t u : TS) : TS := fun D σ H => c σ H fun b H1 => Br b (t D σ H1) (u D σ H1)
theorem dIfS_eq (c : TT) (t u : TS) : dIfS c t u = tIfS c t u := by
  funext D σ H
  unfold dIfS tIfS
  simp only [br_eq]
def dIf (t : TT) (ta tb : TE) : TE := fun σ H Q => t σ H fun c H1 => Br c (ta σ H1 Q) (tb σ H1 Q)
section
variable {X : Cx} {a b c : Expr} {ta tb tc : TE} {pos : Pos} {tA tB' : TT} {rest : List Expr}
theorem dv (i : Nat) {x : Str} {pos : Pos} (hN : X.N[i]? = some x := by rfl) (hv : Vis X.env.scope x := by first | exact Or.inl rfl | exact Or.inr (Or.inl rfl) | exact Or.inr (Or.inr rfl)) (hd : (x == ("__debug__" : Str)) = false := by decide)
    (hcd : (x == ("__classdict__" : Str)) = false := by decide) : PE X (.Name x pos) (dVar i) := by
  rw [dVar_eq]
  exact pe_var hN hv hd hcd
theorem opD {f : Value → Value → Sem Value} {C : Int → Int → Prop} {g : Int → Int → V} (h : OpR X f (rI C g)) : OpR X f (dI C g) := by
  intro pins s σ H x y v u Q I rx ry q
  cases x <;> cases y <;> first
    | exact False.elim q
    | exact h _ _ _ _ _ _ _ _ _ I rx ry ⟨_, _, rfl, rfl, q.1, q.2⟩
theorem opD0 {f : Value → Value → Sem Value} {g : Int → Int → V} (h : OpR X f (rI0 g)) : OpR X f (dI0 g) := by
  intro pins s σ H x y v u Q I rx ry q
  cases x <;> cases y <;> first
    | exact False.elim q
    | exact h _ _ _ _ _ _ _ _ _ I rx ry ⟨_, _, rfl, rfl, q⟩
def Bd (n : Nat) (x : Int) : Prop := x.natAbs < 2 ^ n
theorem Bd.bits {n : Nat} {x : Int} (h : Bd n x) : Builtin.Int.intBits x ≤ n := intBits_le_iff.mpr h
def COk (i j : Int) : Prop := (Bd 4000 i ∧ Bd 4000 j) ∨ CMul i j
theorem COk.ok {i j : Int} (h : COk i j) : IntMulOk i j := by
  rcases h with ⟨h1, h2⟩ | h
  · exact PySem.IntMulOk.of_bits (Nat.le_trans h1.bits (by decide)) (Nat.le_trans h2.bits (by decide))
  · exact h.ok
theorem pow_log {n : Nat} {x : Int} (h : Bd n x) (h0 : 0 < n) : x.natAbs.log2 < n := by
  by_cases z : x.natAbs = 0
  · rw [z]
    simpa using h0
  · exact (Nat.log2_lt z).mpr h
theorem o_add : OpR X (binaryOp .Add) (dI0 fun i j => .int (i + j)) := opD0 op_add
theorem o_sub : OpR X (binaryOp .Sub) (dI0 fun i j => .int (i - j)) := opD0 op_sub
theorem o_mul : OpR X (binaryOp .Mult) (dI COk fun i j => .int (i * j)) := opD (opI fun _ _ _ _ _ _ _ hc q => mul_int q hc.ok)
theorem o_div : OpR X (binaryOp .FloorDiv) (dI (fun _ j => 0 < j ∧ Bd 4000 j) fun i j => .int (i / j)) := opD (opI fun i j _ _ _ _ _ hc q => by
  have h1 : (0 : Int) < j := hc.1
  exact floordiv_int (by omega) (by rw [Int.fdiv_eq_ediv_of_nonneg i (by omega)]; exact q) (.inl (PyProof.noPylong_of_log2 (Nat.lt_trans (pow_log hc.2 (by decide)) (by decide)))))
theorem o_mod : OpR X (binaryOp .Mod) (dI (fun _ j => 0 < j) fun i j => .int (i % j)) := opD op_mod
theorem o_lt : OpR X (compareOp .Lt) (dI0 fun i j => .bl (decide (i < j))) := opD0 op_lt
theorem o_le : OpR X (compareOp .LtE) (dI0 fun i j => .bl (decide (i ≤ j))) := opD0 op_le
theorem o_gt : OpR X (compareOp .Gt) (dI0 fun i j => .bl (decide (j < i))) := opD0 op_gt
def dEq : R2 := fun x y H Q => match x, y with
  | .int i, .int j => Q (.bl (decide (i = j))) H
  | .bl i, .bl j => Q (.bl (i == j)) H
  | .str i, .str j => Q (.bl (decide (i = j))) H
  | _, _ => False
def dNe : R2 := fun x y H Q => match x, y with
  | .int i, .int j => Q (.bl (!decide (i = j))) H
  | .bl i, .bl j => Q (.bl (i != j)) H
  | .str i, .str j => Q (.bl (!decide (i = j))) H
  | _, _ => False
theorem o_eq : OpR X (compareOp .Eq) dEq := by
  intro pins s σ H x y v u Q I rx ry q
  cases x <;> cases y <;> first
    | exact False.elim q
    | (refine op_eq _ _ _ _ _ _ _ _ _ I rx ry ⟨rfl, ?_⟩
       have e : ∀ (i j : Int), decide (V.int i = V.int j) = decide (i = j) := fun i j => by simp
       have e2 : ∀ (i j : Str), decide (V.str i = V.str j) = decide (i = j) := fun i j => by simp
       first
         | (rw [e]; exact q)
         | (rw [e2]; exact q)
         | (rw [dec_bl]; exact q))
theorem o_ne : OpR X (compareOp .NotEq) dNe := by
  intro pins s σ H x y v u Q I rx ry q
  cases x <;> cases y <;> first
    | exact False.elim q
    | (refine op_ne _ _ _ _ _ _ _ _ _ I rx ry ⟨rfl, ?_⟩
       have e : ∀ (i j : Int), decide (V.int i = V.int j) = decide (i = j) := fun i j => by simp
       have e2 : ∀ (i j : Str), decide (V.str i = V.str j) = decide (i = j) := fun i j => by simp
       first
         | (rw [e]; exact q)
         | (rw [e2]; exact q)
         | (rw [dec_bl]; exact q))
theorem t_cmp {op : CmpOp} {r : R2} (ho : OpR X (compareOp op) r) (ha : PE X a ta) (hb : PE X b tb) (hm : behindInMarks op b = false) : PT X (.Compare a [op] [b] pos) (dTest (tOp r ta tb)) := by
  rw [dTest_eq]
  exact pt_cmpR ho ha hb hm
theorem e_isN {j pos'} (ha : PE X a ta) : PE X (.Compare a [.Is] [.Constant .none j pos'] pos) (tIsN ta) := pe_cmp (pc_isN ha)
theorem e_notN {j pos'} (ha : PE X a ta) : PE X (.Compare a [.IsNot] [.Constant .none j pos'] pos) (tNotN ta) := pe_cmp (pc_notN ha)
theorem t_val {e : Expr} {t : TE} (h : PE X e t) (he : ∀ whole, isTrue e X.env whole = (do let v ← whole; standAt e.pos; holding [v] (truthy v)) := by intro _; rfl) : PT X e (dTest t) := by
  rw [dTest_eqB]
  exact pt_val h he
theorem w_and (ha : PT X a tA) (hb : PW X (.BoolOp .And (b :: rest) pos) tB') : PW X (.BoolOp .And (a :: b :: rest) pos) (dAnd tA tB') := by
  rw [dAnd_eq]
  exact pw_and ha hb
theorem w_or (ha : PT X a tA) (hb : PW X (.BoolOp .Or (b :: rest) pos) tB') : PW X (.BoolOp .Or (a :: b :: rest) pos) (dOr tA tB') := by
  rw [dOr_eq]
  exact pw_or ha hb
theorem e_and (ha : PE X a ta) (hb : PE X (.BoolOp .And (b :: rest) pos) tb) : PE X (.BoolOp .And (a :: b :: rest) pos) (dAndV ta tb) := by
  rw [dAndV_eq]
  exact pe_and ha hb
theorem s_if {c : Expr} {a b : List Stmt} {tc : TT} {t u : TS} (hc : PT X c tc) (ha : PSs X a t) (hb : PSs X b u) : PS X (.If c a b pos) (dIfS tc t u) := by
  rw [dIfS_eq]
  exact ps_if hc ha hb
def tCut (R : L2.St → Hp → Prop) (t u : TS) : TS := fun D σ H => t { D with nx := R } σ H ∧ ∀ σ' H', R σ' H' → u D σ' H'
theorem ss_cut (R : L2.St → Hp → Prop) {st : Stmt} {r : List Stmt} {t u : TS} (h1 : PS X st t) (h2 : PSs X r u) : PSs X (st :: r) (tCut R t u) := by
  intro pins s σ H D I h
  refine wpAny_execs_cons (thn (h1 pins s σ H { D with nx := R } I h.1) fun f s1 q => ?_)
  cases f with
  | next =>
    obtain ⟨σ', H', I', q⟩ := q
    exact h2 pins s1 σ' H' D I' (h.2 σ' H' q)
  | ret v => exact q
  | brk => exact q
  | cont => exact q
structure Cal (P : Program) (w : World) (K : PySem.W.Frag) (mg : Str → Option Value) (base : Heap) (x : Str) (ps : List Str) (k : Nat) (sp : Sp) : Prop where
  ex : ∃ (f : Addr) (fd : FuncData), mg x = some (.ref f) ∧ PySem.W.keepIn K (.ref f) = true ∧ Binds K fd ps [] ∧ FnOk P w K mg base (CXE P w) k f fd ps sp ∧
    ∃ (oc : Value) (od : Option Addr) (osl : Array (Option Value)), K.lookup f = some ⟨oc, od, .func fd, osl⟩
def dCall (sp : Sp) (t : TA) : TE := fun σ H Q => t σ H fun vs H1 => sp vs H1 Q E0
theorem dCall_eq (sp : Sp) (t : TA) : dCall sp t = tCall sp [] E0 t := by
  funext σ H Q
  unfold dCall tCall
  simp only [List.append_nil]
theorem e_call {x : Str} {ps : List Str} {k k' : Nat} {sp : Sp} {p : Pos} {e : Expr} {es : List Expr} {t : TA} (C : Cal X.prog X.w X.K X.mg X.base x ps k sp) (hr : Room k' X.A) (hk : k ≤ k') (hg : Gl X x)
    (ha : PA X (e :: es) t) (hdb : (x == ("__debug__" : Str)) = false := by decide) (he : starEach (e :: es) X.env = (false, eval e X.env) :: starEach es X.env := by rfl) (hpl : (backTo pos (starEach es X.env)).any (·.1) = false := by rfl) :
    PE X (.Call (.Name x p) (e :: es) [] pos) (dCall sp t) := by
  obtain ⟨f, fd, h1, h2, h3, h4, _⟩ := C.ex
  rw [dCall_eq]
  exact pe_call (h4.mono hk) hr hg h1 h2 h3 .nil passX0 ha hdb he hpl
def lenOk (xs : List V) : Bool := Nat.ble xs.length 1000
theorem lenOk_le {xs : List V} (h : lenOk xs = true) : xs.length ≤ sizeLine := Nat.le_trans (Nat.le_of_ble_eq_true h) (by decide)
def dTup (t : TA) : TE := fun σ H Q => t σ H fun xs H1 => match lenOk xs with
  | true => ∀ p H', Same H1 H' → H' p = some (.tup xs) → Q (.ref p) H'
  | false => False
def dLst (t : TA) : TE := fun σ H Q => t σ H fun xs H1 => match lenOk xs with
  | true => ∀ p H', Same H1 H' → H' p = some (.lst xs) → Q (.ref p) H'
  | false => False
theorem same_upd {H : Hp} {p : Addr} {o : HO} (h : H p = none) : Same H (upd H p o) := fun b u e => by
  rw [upd_ne (ne_of_none e h)]
  exact e
theorem e_tup {es : List Expr} {t : TA} {x1} (h : PA X es t) : PE X (.Tuple es x1 pos) (dTup t) := by
  intro pins s σ H Q I hq
  refine wpAny_Tuple_spliced (thn (h pos pins s σ H _ I hq) fun us s1 ⟨xs, H1, I1, r, q⟩ => ?_)
  cases hl : lenOk xs with
  | false =>
    have q' : (match lenOk xs with | true => _ | false => False : Prop) := q
    rw [hl] at q'
    exact q'.elim
  | true =>
    have z := lenOk_le hl
    have q' : (match lenOk xs with | true => ∀ p H', Same H1 H' → H' p = some (.tup xs) → Q (.ref p) H' | false => False : Prop) := q
    rw [hl] at q'
    refine ⟨by rw [← r.length]; exact z, ?_⟩
    have hf : H1 s1.heap.objs.size = none := I1.hok.fresh (Nat.le_refl _)
    refine ⟨.ref s1.heap.objs.size, upd H1 s1.heap.objs.size (.tup xs), I1.laid (t' := s1.toks) (fun b u e => Heap.get?_push_of_some _ e) (Nat.le_refl _) ?_, rfl, q' _ _ (same_upd hf) upd_same⟩
    exact ⟨z, us, r, ⟨_, Heap.get?_push_size _ rfl, rfl, _, rfl⟩⟩
theorem e_lst {es : List Expr} {t : TA} (h : PA X es t) : PE X (.List es pos) (dLst t) := by
  intro pins s σ H Q I hq
  refine wpAny_List_spliced (thn (h pos pins s σ H _ I hq) fun us s1 ⟨xs, H1, I1, r, q⟩ => ?_)
  cases hl : lenOk xs with
  | false =>
    have q' : (match lenOk xs with | true => _ | false => False : Prop) := q
    rw [hl] at q'
    exact q'.elim
  | true =>
    have z := lenOk_le hl
    have q' : (match lenOk xs with | true => ∀ p H', Same H1 H' → H' p = some (.lst xs) → Q (.ref p) H' | false => False : Prop) := q
    rw [hl] at q'
    refine ⟨by rw [← r.length]; exact z, ?_⟩
    have hf : H1 s1.heap.objs.size = none := I1.hok.fresh (Nat.le_refl _)
    refine ⟨.ref s1.heap.objs.size, upd H1 s1.heap.objs.size (.lst xs), I1.laid (t' := s1.toks) (fun b u e => Heap.get?_push_of_some _ e) (Nat.le_refl _) ?_, rfl, q' _ _ (same_upd hf) upd_same⟩
    exact ⟨z, us, 0, r, Heap.get?_push_size _ rfl⟩
def nthI (xs : List V) : Int → Option V
  | .ofNat n => xs[n]?
  | .negSucc _ => none
theorem nthI_at {xs : List V} {i : Int} {v : V} (h : nthI xs i = some v) : atI xs i = some v := by
  cases i with
  | ofNat n => exact atI_nat h
  | negSucc n => cases h
def dIxT : R2 := fun x y H Q => match x, y with
  | .ref p, .int i => ∃ xs, H p = some (.tup xs) ∧ match nthI xs i with
    | some v => Q v H
    | none => False
  | _, _ => False
def dIxL (K : PySem.W.Frag) : R2 := fun x y H Q => match x, y with
  | .ref p, .int i => ∃ xs v, SqL K H p xs ∧ atI xs i = some v ∧ Q v H
  | _, _ => False
theorem i_tup : IxR X dIxT := by
  intro value slice pins s σ H x y v u Q I rx ry h hs
  cases x <;> cases y <;> first
    | exact False.elim h
    | (obtain ⟨xs, e, q⟩ := h
       cases z : nthI xs _ with
       | none =>
         rw [z] at q
         exact q.elim
       | some w =>
         rw [z] at q
         exact ix_tup value slice pins s σ H _ _ v u Q I rx ry ⟨_, xs, _, w, rfl, rfl, SqT.of e, nthI_at z, q⟩ hs)
theorem i_lst : IxR X (dIxL X.K) := by
  intro value slice pins s σ H x y v u Q I rx ry h hs
  cases x <;> cases y <;> first
    | exact False.elim h
    | (obtain ⟨xs, w, e, z, q⟩ := h
       exact ix_list value slice pins s σ H _ _ v u Q I rx ry ⟨_, xs, _, w, rfl, rfl, e, z, q⟩ hs)
theorem e_ty (T : String) {x : Str} (hg : Gl X x) (hm : X.mg x = none) (hv : bootBuiltins x = some (.type T)) (hn : x ≠ "__name__" := by decide) (hd : (x == ("__debug__" : Str)) = false := by decide) : PE X (.Name x pos) (tC (.ty T)) :=
  pe_bltn hg hm hv rfl hn hd
def dAbs : List V → Hp → VK → Prop := fun xs H Q => match xs with
  | [.int i] => Q (.int (i.natAbs : Int)) H
  | _ => False
def dLen (K : PySem.W.Frag) : List V → Hp → VK → Prop := fun xs H Q => match xs with
  | [.ref p] => ∃ ys, (SqL K H p ys ∨ SqT K H p ys) ∧ Q (.int ys.length) H
  | [.str z] => z.length ≤ sizeLine ∧ Q (.int z.length) H
  | _ => False
theorem c_len : CallR X (.builtin "len") (dLen X.K) := by
  intro pins s σ H xs us Q I r h
  match xs, h with
  | [.ref p], ⟨ys, h1, q⟩ => exact call_len_seq pins s σ H _ us Q I r ⟨p, ys, rfl, h1, q⟩
  | [.str z], ⟨h1, q⟩ => exact call_len_str pins s σ H _ us Q I r ⟨z, rfl, h1, q⟩
def tyB (t c : String) : Option Bool :=
  if t = c then some true else if t = "bool" ∧ c = "int" then some true
  else if (t = "int" ∨ t = "bool" ∨ t = "str" ∨ t = "tuple" ∨ t = "list" ∨ t = "dict" ∨ t = "NoneType") ∧ (c = "int" ∨ c = "bool" ∨ c = "str" ∨ c = "tuple" ∨ c = "list") then some false else none
def tyHO : HO → Option String
  | .lst _ => some "list"
  | .frz _ (.lst _) => some "list"
  | .tup _ => some "tuple"
  | .dK _ => some "dict"
  | .dT _ => some "dict"
  | _ => none
def dIsi : List V → Hp → VK → Prop := fun xs H Q => match xs with
  | [.non, .ty c] => ∃ b, tyB "NoneType" c = some b ∧ Q (.bl b) H
  | [.bl _, .ty c] => ∃ b, tyB "bool" c = some b ∧ Q (.bl b) H
  | [.int _, .ty c] => ∃ b, tyB "int" c = some b ∧ Q (.bl b) H
  | [.str _, .ty c] => ∃ b, tyB "str" c = some b ∧ Q (.bl b) H
  | [.ref p, .ty c] => ∃ u b t, H p = some u ∧ tyHO u = some t ∧ tyB t c = some b ∧ Q (.bl b) H
  | _ => False
theorem kit_tyB (K : PySem.W.Frag) {t c : String} {b : Bool} (h : tyB t c = some b) : PySem.W.kitOne K (.type t) (.type c) = some b := by
  unfold tyB at h
  split at h
  · rename_i e
    subst e
    cases h
    unfold PySem.W.kitOne
    rw [if_pos (by simp)]
  · split at h
    · rename_i e
      obtain ⟨rfl, rfl⟩ := e
      cases h
      kernel_rfl
    · split at h
      · rename_i e1 e2 e
        cases h
        obtain ⟨ht, hc⟩ := e
        rcases ht with rfl | rfl | rfl | rfl | rfl | rfl | rfl <;> rcases hc with rfl | rfl | rfl | rfl | rfl <;> first
          | exact absurd rfl e1
          | exact absurd ⟨rfl, rfl⟩ e2
          | kernel_rfl
      · cases h
theorem c_isi : CallR X (.builtin "isinstance") dIsi := by
  intro pins s σ H xs us Q I r h
  match xs, h with
  | [.non, .ty c], ⟨b, e, q⟩ =>
    obtain ⟨u, w', rfl, r1, r2⟩ := vals2 r
    cases (show w' = Value.type c from r2)
    exact isinst_ok I r1 .non (kit_tyB X.K e) fun tk => ⟨.bl b, H, I.tok _, rfl, q⟩
  | [.bl y, .ty c], ⟨b, e, q⟩ =>
    obtain ⟨u, w', rfl, r1, r2⟩ := vals2 r
    cases (show w' = Value.type c from r2)
    exact isinst_ok I r1 (.bl y) (kit_tyB X.K e) fun tk => ⟨.bl b, H, I.tok _, rfl, q⟩
  | [.int y, .ty c], ⟨b, e, q⟩ =>
    obtain ⟨u, w', rfl, r1, r2⟩ := vals2 r
    cases (show w' = Value.type c from r2)
    exact isinst_ok I r1 (.int y) (kit_tyB X.K e) fun tk => ⟨.bl b, H, I.tok _, rfl, q⟩
  | [.str y, .ty c], ⟨b, e, q⟩ =>
    obtain ⟨u, w', rfl, r1, r2⟩ := vals2 r
    cases (show w' = Value.type c from r2)
    exact isinst_ok I r1 (.str y) (kit_tyB X.K e) fun tk => ⟨.bl b, H, I.tok _, rfl, q⟩
  | [.ref p, .ty c], ⟨o, b, t, e1, e2, e, q⟩ =>
    obtain ⟨u, w', rfl, r1, r2⟩ := vals2 r
    cases (show w' = Value.type c from r2)
    have ty : TyOf X.K H (.ref p) (.type t) := by
      cases o with
      | lst ys => cases e2; exact .lst e1
      | tup ys => cases e2; exact .tup e1
      | dK ys => cases e2; exact .dK e1
      | dT ys => cases e2; exact .dT e1
      | frz ob u =>
        cases u with
        | lst ys => cases e2; exact .frz e1
        | _ => cases e2
      | _ => cases e2
    exact isinst_ok I r1 ty (kit_tyB X.K e) fun tk => ⟨.bl b, H, I.tok _, rfl, q⟩
end
section
variable {X : Cx} {pos : Pos}
def dWhile (c : TT) (tb : TS) : TS := fun D σ H => ∃ W : Nat → L2.St → Hp → Prop, (∃ m, W m σ H) ∧ ∀ m σ H, W m σ H →
  c σ H fun b H1 => Br b (tb { D with nx := fun σ' H' => ∃ m', m' < m ∧ W m' σ' H', ct := fun σ' H' => ∃ m', m' < m ∧ W m' σ' H', bk := D.nx } σ H1) (D.nx σ H1)
theorem s_while {c : Expr} {body : List Stmt} {tc : TT} {tb : TS} (hp : PassesOwn (model X.prog X.w) X.A X.env X.xe) (hc : PT X c tc) (hb : PSs X body tb) : PS X (.While c body [] pos) (dWhile tc tb) := by
  intro pins s σ H D I h
  obtain ⟨W, ⟨m0, w0⟩, turn⟩ := h
  refine wpAny_While (codeAny_whileLoop (fun n s' => ∃ σ' H', Inv X pins σ' H' s' ∧ W n σ' H') ?_ m0 ⟨σ, H, I, w0⟩)
  rintro n s1 ⟨σ1, H1, I1, w1⟩
  refine wpAny_passesOwn hp (thn (hc pins s1 σ1 H1 _ I1 (turn n σ1 H1 w1)) fun b s2 ⟨H2, I2, q2⟩ => ?_)
  cases b with
  | true =>
    have q2 := q2.1 rfl
    rw [if_pos rfl]
    refine wpAny_passesOwn hp (thn (hb pins s2 σ1 H2 _ I2 q2) fun f s3 q3 => ?_)
    cases f with
    | next =>
      obtain ⟨σ3, H3, I3, m', hm, w3⟩ := q3
      exact ⟨m', hm, σ3, H3, I3, w3⟩
    | cont =>
      obtain ⟨σ3, H3, I3, m', hm, w3⟩ := q3
      exact ⟨m', hm, σ3, H3, I3, w3⟩
    | brk => exact q3
    | ret v => exact q3
  | false =>
    rw [if_neg Bool.false_ne_true]
    exact wpAny_execs_nil ⟨σ1, H2, I2, q2.2 rfl⟩
end
structure Dfn (K : PySem.W.Frag) (mg : Str → Option Value) (x : Str) (st : Stmt) (ps : List Str) : Prop where
  ex : ∃ (f : Addr) (fd : FuncData), Fun K x x st f fd ∧ mg x = some (.ref f) ∧ Binds K fd ps []
section
variable {P : Program} {w : World} {K : PySem.W.Frag} {mg : Str → Option Value} {base : Heap}
theorem Dfn.calX {x : Str} {st : Stmt} {N ps : List Str} {k : Nat} {sp : Sp} (d : Dfn K mg x st ps) (S : FnScope N ps (defScope st)) (len : ∀ vs H Q E, sp vs H Q E → vs.length = ps.length)
    (hbody : ∀ (f : Addr) (cdv : Value) (A : Around) (outer : List Env) (s : Shared) (H : Hp) (vs : List V) (Q : VK) (E : XK), Room k (A.deeper (envOfC x (defScope st) s.heap.objs.size f cdv)) → sp vs H Q E →
      ∃ t, PSs (cxOf (CXE P w) P w K mg base N x (defScope st) f cdv A outer s H E) (defBody st) t ∧ t { nx := fun _ H' => Q .non H', rt := Q } (start N vs) H) : Cal P w K mg base x ps (k + 1) sp := by
  obtain ⟨f, fd, F, hm, hb⟩ := d.ex
  obtain ⟨oc, od, kV, doc, pm, an, cdv, ct, osl, rfl, lk, hcd⟩ := F.ex
  exact ⟨f, _, hm, F.kp, hb, fn_of lk hcd S len fun A outer s H vs Q E hr hsp => hbody f cdv A outer s H vs Q E hr hsp, oc, od, osl, lk⟩
theorem Dfn.cal {x : Str} {st : Stmt} {N ps : List Str} {k : Nat} {sp : Sp} (d : Dfn K mg x st ps) (S : FnScope N ps (defScope st)) (len : ∀ vs H Q E, sp vs H Q E → vs.length = ps.length)
    (hbody : ∀ (f : Addr) (cdv : Value) (A : Around) (outer : List Env) (s : Shared) (H : Hp) (vs : List V) (Q : VK) (E : XK), Room k (A.deeper (envOfC x (defScope st) s.heap.objs.size f cdv)) → sp vs H Q E →
      ∃ t, PSs (cxOf (CXE P w) P w K mg base N x (defScope st) f cdv A outer s H E).nox (defBody st) t ∧ t { nx := fun _ H' => Q .non H', rt := Q } (start N vs) H) : Cal P w K mg base x ps (k + 1) sp :=
  d.calX S len fun f cdv A outer s H vs Q E hr hsp => by
    obtain ⟨t, h, q⟩ := hbody f cdv A outer s H vs Q E hr hsp
    exact ⟨t, h.nox, q⟩
def sp_law (K : PySem.W.Frag) (ns : List Int) : Sp := fun vs H Q _ => match vs with
  | [.ref a] => SqL K H a (ns.map V.int) ∧ ns.length ≤ 63 ∧ ∀ H', Q (.bl true) H'
  | _ => False
def sp_lawA (K : PySem.W.Frag) : Sp := fun vs H Q _ => ∃ (ns : List Int) (a : Addr), vs = [.ref a] ∧ SqL K H a (ns.map V.int) ∧ ns.length ≤ 63 ∧ ∀ H', Q (.bl true) H'
theorem law_fn {k : Nat} {st : Stmt} {f : Addr} {fd : FuncData} (F : Fun K "law" "law" st f fd) (hm : mg "law" = some (.ref f)) (C : ∀ ns, Cal P w K mg base "law" ["_law_script"] k (sp_law K ns)) : FnOk P w K mg base (CXE P w) k f fd ["_law_script"] (sp_lawA K) := by
  refine ⟨fun vs H Q E h => ?_, fun A outer s H args us vs Q E hr he hb hv hs => ?_⟩
  · obtain ⟨ns, a, rfl, _⟩ := h
    rfl
  · obtain ⟨ns, a, rfl, h1, h2, h3⟩ := hs
    obtain ⟨f', fd', e1, e2, e3, G, oc', od', osl', lk'⟩ := (C ns).ex
    obtain ⟨oc, od, kV, doc, pm, an, cdv, ct, osl, _, lk, _⟩ := F.ex
    rw [hm] at e1
    cases e1
    rw [lk] at lk'
    cases lk'
    exact G.run A outer s H args us _ Q E hr he hb hv ⟨h1, h2, h3⟩
end
theorem sm_sqT {K : PySem.W.Frag} {H H' : Hp} {a : Addr} {xs : List V} (e : Same H H') (h : SqT K H a xs) : SqT K H' a xs := by
  rcases h with (h | ⟨o, h⟩) | h
  · exact .inl (.inl (e _ _ h))
  · exact .inl (.inr ⟨o, e _ _ h⟩)
  · exact .inr h
mutual
inductive Rp (K : PySem.W.Frag) (H : Hp) : V → PyData → Prop where
  | non : Rp K H .non .none
  | bl (b : Bool) : Rp K H (.bl b) (.bool b)
  | int (i : Int) : Rp K H (.int i) (.int i)
  | str (x : Str) : Rp K H (.str x) (.str x)
  | tup {p : Addr} {xs : List V} {ds : List PyData} : SqT K H p xs → RpL K H xs ds → Rp K H (.ref p) (.tuple ds)
  | lst {p : Addr} {xs : List V} {ds : List PyData} : SqL K H p xs → RpL K H xs ds → Rp K H (.ref p) (.list ds)
inductive RpL (K : PySem.W.Frag) (H : Hp) : List V → List PyData → Prop where
  | nil : RpL K H [] []
  | cons {v : V} {d : PyData} {vs : List V} {ds : List PyData} : Rp K H v d → RpL K H vs ds → RpL K H (v :: vs) (d :: ds)
end
mutual
theorem Rp.up {K : PySem.W.Frag} {H H' : Hp} (s : Same H H') : ∀ {v : V} {d : PyData}, Rp K H v d → Rp K H' v d
  | _, _, .non => .non
  | _, _, .bl b => .bl b
  | _, _, .int i => .int i
  | _, _, .str x => .str x
  | _, _, .tup h r => .tup (sm_sqT s h) (RpL.up s r)
  | _, _, .lst h r => .lst (s.seq h) (RpL.up s r)
theorem RpL.up {K : PySem.W.Frag} {H H' : Hp} (s : Same H H') : ∀ {v : List V} {d : List PyData}, RpL K H v d → RpL K H' v d
  | _, _, .nil => .nil
  | _, _, .cons h r => .cons (Rp.up s h) (RpL.up s r)
end
section
variable {X : Cx}
mutual
theorem Rp.reads {pins : List (Addr × Obj)} {σ : L2.St} {H : Hp} {s : Shared} (I : Inv X pins σ H s) : ∀ {v : V} {d : PyData} {u : Value}, Rp X.K H v d → L2.RelV v u → ∃ as, Reads s.heap u d as
  | _, _, _, .non, r => by cases r; exact ⟨_, Reads.none⟩
  | _, _, _, .bl b, r => by cases r; exact ⟨_, Reads.bool b⟩
  | _, _, _, .int i, r => by obtain ⟨t, rfl⟩ := r; exact ⟨_, Reads.int i t⟩
  | _, _, _, .str i, r => by obtain ⟨t, rfl⟩ := r; exact ⟨_, Reads.str i t⟩
  | _, _, _, .tup h q, r => by
    cases r
    obtain ⟨its, rv, ⟨o, e, c, n, dd⟩, _⟩ := I.tuple h
    obtain ⟨as, ra⟩ := RpL.reads I q rv
    exact ⟨as, reads_tuple_at e c dd (by simpa using ra)⟩
  | _, _, _, .lst h q, r => by
    cases r
    obtain ⟨its, rv, ⟨o, n, e, c, _, dd⟩, _⟩ := I.list h
    obtain ⟨as, ra⟩ := RpL.reads I q rv
    exact ⟨_, reads_list_at e c dd (by simpa using ra)⟩
theorem RpL.reads {pins : List (Addr × Obj)} {σ : L2.St} {H : Hp} {s : Shared} (I : Inv X pins σ H s) : ∀ {v : List V} {d : List PyData} {u : List Value}, RpL X.K H v d → Vals v u → ∃ as, ReadsAll s.heap u d as
  | _, _, _, .nil, r => by cases r; exact ⟨_, ReadsAll.nil⟩
  | _, _, _, .cons h q, r => by
    cases r with
    | cons r1 r2 =>
      obtain ⟨as, ra⟩ := Rp.reads I h r1
      obtain ⟨bs, rb⟩ := RpL.reads I q r2
      exact ⟨_, ReadsAll.cons ra rb⟩
end
def dEqD (K : PySem.W.Frag) : R2 := fun x y H Q => ∃ d e, Rp K H x d ∧ Rp K H y e ∧ SeqAt.shaped d = true ∧ SeqAt.shaped e = true ∧ Q (.bl (PyData.eqv d e)) H
def dNeD (K : PySem.W.Frag) : R2 := fun x y H Q => ∃ d e, Rp K H x d ∧ Rp K H y e ∧ SeqAt.shaped d = true ∧ SeqAt.shaped e = true ∧ Q (.bl (!PyData.eqv d e)) H
theorem o_neD (hu : X.A.units + 64 < cLine) : OpR X (compareOp .NotEq) (dNeD X.K) := by
  intro pins s σ H x y v u Q I rx ry q
  obtain ⟨d, e, h1, h2, h3, h4, q⟩ := q
  obtain ⟨as, r1⟩ := h1.reads I rx
  obtain ⟨bs, r2⟩ := h2.reads I ry
  exact PyProof.Rows.ne_dataH r1 r2 h3 h4 hu ⟨.bl _, H, I, rfl, q⟩
end
end Lw
end
section
set_option Elab.async false
set_option linter.all false
set_option maxRecDepth 100000
set_option maxHeartbeats 4000000
set_option exponentiation.threshold 5000
namespace Lw
open PySem PySem.Spec PyProof.Rows L2
def cell (ns : List Int) (k : Int) : Int := if ns.length = 0 then 0 else ns.getD (k % (ns.length : Int)).toNat 0
def draw (ns : List Int) (k m : Int) : Int := (cell ns k + 1) * (k * k + 7 * k + 48271) % 99991 / 3 % m
theorem bd_lit {n : Nat} {x : Int} (h : Nat.blt x.natAbs (2 ^ n) = true) : Bd n x := by
  unfold Bd
  exact Nat.lt_of_lt_of_le (Nat.lt_of_succ_le (Nat.le_of_ble_eq_true h)) (Nat.le_refl _)
def lowT (t b : Int) : Int := t / (Int.gcd t b : Int)
def lowB (t b : Int) : Int := b / (Int.gcd t b : Int)
structure Fq (n : Nat) (H : Hp) (p : Addr) (a b : Int) : Prop where
  at' : H p = some (.tup [.int a, .int b])
  pos : 0 < b
  ba : Bd n a
  bb : Bd n b
abbrev Q2 := Int × Int
def ltQ (x y : Q2) : Bool := decide (x.1 * y.2 < y.1 * x.2)
def sumQ (x y : Q2) : Q2 := (lowT (x.1 * y.2 + y.1 * x.2) (x.2 * y.2), lowB (x.1 * y.2 + y.1 * x.2) (x.2 * y.2))
structure Pq (n : Nat) (H : Hp) (r : Addr) (lo : Q2) (hi : Option Q2) : Prop where
  ex : ∃ l x, H r = some (.tup [.ref l, x]) ∧ Fq n H l lo.1 lo.2 ∧ (hi = none ∧ x = .non ∨ ∃ q y, hi = some y ∧ x = .ref q ∧ Fq n H q y.1 y.2)
def okHi (lo : Q2) (hi : Option Q2) : Prop := 0 < lo.2 ∧ ∀ h, hi = some h → 0 < h.2 ∧ ltQ h lo = false
def bnQ (hi : Option Q2) (lo : Q2) : Bool := match hi with
  | none => false
  | some h => ltQ h lo
def inQ (x lo : Q2) (hi : Option Q2) : Bool := !ltQ x lo && !bnQ hi x
def frT (t b : Int) : Int := if b < 0 then -lowT t b else lowT t b
def frB (t b : Int) : Int := if b < 0 then -lowB t b else lowB t b
def dvs (t b : Int) : Int := if b < 0 then -(Int.gcd t b : Int) else (Int.gcd t b : Int)
structure FrAt (H : Hp) (p : Addr) (t b : Int) : Prop where
  at' : H p = some (.tup [.int (frT t b), .int (frB t b)])
end Lw
end
section
set_option Elab.async false
set_option linter.all false
set_option maxRecDepth 100000
set_option maxHeartbeats 4000000
namespace Lw
open PySem PySem.Spec PyProof.Rows L2
def ItK (kd : Bool) (h : Heap) (it l : Addr) (k : Nat) : Prop := match kd with
  | true => h.IsListIter it l k
  | false => h.IsTupleIter it l k
def SeK (kd : Bool) (h : Heap) (l : Addr) (xs : Array Value) : Prop := match kd with
  | true => h.IsList l xs
  | false => h.IsTuple l xs
def SqK (kd : Bool) (K : PySem.W.Frag) (H : Hp) (a : Addr) (xs : List V) : Prop := match kd with
  | true => SqL K H a xs
  | false => SqT K H a xs
section
variable {prog : Program} {w : World} {A : Around} {E : Value → Shared → Prop} {s : Shared}
structure ZAt (k1 k2 : Bool) (z TI TO i1 i2 l1 l2 : Addr) (n : Nat) (h : Heap) : Prop where
  z : IsZip h z TI TO .none
  ti : IsPair h TI (.ref i1) (.ref i2)
  to : ∃ a b, IsPair h TO a b
  a : ItK k1 h i1 l1 n
  b : ItK k2 h i2 l2 n
def itO (kd : Bool) (l : Addr) : Obj := match kd with
  | true => { cls := .type "list_iterator", data := .fields #[.ref l, .int 0 0] }
  | false => { cls := .type "tuple_iterator", data := .fields #[.ref l, .int 0 0] }
end
abbrev zK1 (k1 : Bool) (h : Heap) (l1 : Addr) : Heap := h.push (itO k1 l1)
abbrev zK2 (k1 k2 : Bool) (h : Heap) (l1 l2 : Addr) : Heap := (zK1 k1 h l1).push (itO k2 l2)
abbrev zK3 (k1 k2 : Bool) (h : Heap) (l1 l2 : Addr) : Heap := (zK2 k1 k2 h l1 l2).push { cls := .type "tuple", data := .seq #[.ref h.objs.size, .ref (zK1 k1 h l1).objs.size] }
abbrev zK4 (k1 k2 : Bool) (h : Heap) (l1 l2 : Addr) : Heap := (zK3 k1 k2 h l1 l2).push { cls := .type "tuple", data := .seq #[.none, .none] }
abbrev zK5 (k1 k2 : Bool) (h : Heap) (l1 l2 : Addr) : Heap := (zK4 k1 k2 h l1 l2).push { cls := .type "zip", data := .fields #[.none, .bool false, .bool false, .ref (zK2 k1 k2 h l1 l2).objs.size, .ref (zK3 k1 k2 h l1 l2).objs.size] }
section
variable {prog : Program} {w : World} {A : Around} {E : Value → Shared → Prop} {s : Shared}
end
section
variable {X : Cx}
def Itz (k1 k2 : Bool) (K : PySem.W.Frag) (a b : Addr) : It :=
  ⟨fun i H => ∃ xs ys x y, SqK k1 K H a xs ∧ SqK k2 K H b ys ∧ xs[i]? = some x ∧ ys[i]? = some y,
   fun i H v H' => ∃ t x y, v = .ref t ∧ H t = none ∧ H' = upd H t (.tup [x, y]) ∧ (∀ xs, SqK k1 K H a xs → xs[i]? = some x) ∧ ∀ ys, SqK k2 K H b ys → ys[i]? = some y,
   fun i H => ∃ xs ys, SqK k1 K H a xs ∧ SqK k2 K H b ys ∧ (xs.length ≤ i ∨ ys.length ≤ i)⟩
def iZip (k1 k2 : Bool) (K : PySem.W.Frag) (ta : TA) : TI := fun σ H R => ta σ H fun vs H1 => match vs with
  | [.ref a, .ref b] => (∃ xs, SqK k1 K H1 a xs) ∧ (∃ ys, SqK k2 K H1 b ys) ∧ R (Itz k1 k2 K a b) H1
  | _ => False
end
section
variable {X : Cx}
def dCatL : R2 := fun x y H Q => match x, y with
  | .ref l, .ref b => ∃ xs zs, H l = some (.lst xs) ∧ H b = some (.lst zs) ∧ xs.length + zs.length ≤ 1000 ∧ ∀ p H', Same H H' → H' p = some (.lst (xs ++ zs)) → Q (.ref p) H'
  | _, _ => False
theorem o_catL : OpR X (binaryOp .Add) dCatL := by
  intro pins s σ H x y v u Q I rx ry q
  cases x <;> cases y <;> first
    | exact False.elim q
    | (obtain ⟨xs, zs, h1, h2, h3, q⟩ := q
       exact op_cat _ _ _ _ _ _ _ _ _ I rx ry ⟨_, _, xs, zs, rfl, rfl, h1, h2, Nat.le_trans h3 (by decide), fun p hp => q p _ (same_upd hp) upd_same⟩)
def dSlL (K : PySem.W.Frag) : V → Option Int → Option Int → Hp → VK → Prop := fun x lo hi H Q => match x with
  | .ref a => ∃ xs, SqL K H a xs ∧ ∀ p H', Same H H' → H' p = some (.lst (cutV xs lo hi)) → Q (.ref p) H'
  | _ => False
theorem sl_lst : SlR X (dSlL X.K) := by
  intro pins s σ H x v vl vu lo hi sl Q I rx hs pl pu h
  cases x <;> first
    | exact False.elim h
    | (obtain ⟨xs, h1, q⟩ := h
       exact sl_list _ _ _ _ _ _ _ _ _ _ _ _ I rx hs pl pu ⟨_, xs, rfl, h1, fun p hp => q p _ (same_upd hp) upd_same⟩)
end
def AllFq (n : Nat) (H : Hp) (vs : List V) : Prop := ∀ v ∈ vs, ∃ (p : Addr) (x : Q2), v = .ref p ∧ Fq n H p x.1 x.2
end Lw
end
section
set_option Elab.async false
set_option linter.all false
set_option maxRecDepth 100000
set_option maxHeartbeats 4000000
namespace Lw
open PySem PySem.Spec PyProof.Rows L2
section
variable {X : Cx} {pos : Pos}
def dD0 : TE := fun _ H Q => ∀ p H', Same H H' → H' p = some (.dK []) → Q (.ref p) H'
end
end Lw
end
section
set_option Elab.async false
set_option linter.all false
set_option maxRecDepth 100000
set_option maxHeartbeats 4000000
namespace Lw
open PySem PySem.Spec PyProof.Rows L2
section
variable {prog : Program} {w : World} {A : Around} {R : Result → Shared → Prop} {s : Shared}
theorem turn_eq (elt tg iter : Expr) (scope : Scope) (pos : Pos) (it acc : Value) (env : Env) :
    compTurn (.ListComp elt [⟨tg, iter, [], 0⟩] scope pos) 0 it acc env = (standAt iter.pos >>= fun _ => pyNext it >>= fun r => match r with
      | none => pure (.done .next)
      | some v => letOwnedTupleGo tg it v >>= fun _ => assign tg env v >>= fun _ => (eval elt env >>= fun x => call (.builtin "list.append") [acc, x] >>= fun _ => pure ()) >>= fun _ => again (.compLoop (.ListComp elt [⟨tg, iter, [], 0⟩] scope pos) 0 it acc env)) := rfl
theorem loop_comp {elt tg iter : Expr} {scope : Scope} {pos : Pos} {it acc : Value} {env : Env} (I : Nat → Shared → Prop)
    (turn : ∀ n s, I n s → wpAny (model prog w) A (pyNext it) (fun r s1 => (r = none ∧ R (.ok .next) s1) ∨ ∃ v, r = some v ∧ wpAny (model prog w) A (letOwnedTupleGo tg it v) (fun _ s2 => wpAny (model prog w) A (assign tg env v) (fun _ s3 =>
      wpAny (model prog w) A (eval elt env) (fun x s4 => wpAny (model prog w) A (call (.builtin "list.append") [acc, x]) (fun _ s5 => ∃ m, m < n ∧ I m s5) (fun _ _ => False) s4) (fun _ _ => False) s3) (fun _ _ => False) s2) (fun _ _ => False) s1) (fun _ _ => False) s)
    (n : Nat) (h : I n s) : codeAny (model prog w) A (.compLoop (.ListComp elt [⟨tg, iter, [], 0⟩] scope pos) 0 it acc env) R s := by
  refine codeAny_loop rfl I (fun n s hI => ?_) n h
  show wpAny _ _ ((compTurn (.ListComp elt [⟨tg, iter, [], 0⟩] scope pos) 0 it acc env).onRaise (fun x => do noteFrame x env; theTreesLotGoes x)) _ _ s
  refine wpAny_noted ?_
  rw [turn_eq]
  refine wpAny_bind (wpAny_standAt (wpAny_bind (wpAny_mono (turn n s hI) (fun r s1 h1 => ?_) fun _ _ z => z.elim)))
  rcases h1 with ⟨rfl, h1⟩ | ⟨v, rfl, h1⟩
  · exact wpAny_pure h1
  · refine wpAny_bind (wpAny_mono h1 (fun _ s2 h2 => ?_) fun _ _ z => z.elim)
    refine wpAny_bind (wpAny_mono h2 (fun _ s3 h3 => ?_) fun _ _ z => z.elim)
    refine wpAny_bind (wpAny_bind (wpAny_mono h3 (fun x s4 h4 => ?_) fun _ _ z => z.elim))
    refine wpAny_bind (wpAny_mono h4 (fun _ s5 h5 => ?_) fun _ _ z => z.elim)
    exact wpAny_pure (wpAny_pure ⟨rfl, h5⟩)
end
abbrev cxC (X : Cx) (N : List Str) (s₀ : Shared) (H₀ : Hp) (env : Env) (fp : List Addr) : Cx :=
  { X with N := N, s₀ := s₀, H₀ := H₀, env := env, outer := X.stack, ex := fp, fn := fun _ => false, pn := [], xe := fun _ _ => False }
structure Cap (X : Cx) (sc : Scope) (cl : List (Str × Addr)) (j : Nat) (y : Str) : Prop where
  nm : X.N[j]? = some y
  ko : X.env.kindOf y = some .cell
  ki : sc.names.lookup y = some .cell
  cl : cl.lookup y = X.env.cells.lookup y
def capσ (js : List Nat) (σ : L2.St) : L2.St := js.map fun j => (σ[j]?).join
@[irreducible] def CGoal (J : It) (g : TG) (te : TE) (k : Nat) (js : List Nat) (σ : L2.St) (H1 : Hp) (Q : VK) : Prop := ∀ D, H1 D = none → ∃ W : Nat → Nat → Hp → Prop, (∃ m, W 0 m (upd H1 D (.lst []))) ∧ ∀ i m H, W i m H →
  (J.stop i H ∧ Q (.ref D) H) ∨ (J.go i H ∧ ∀ x H', J.yld i H x H' → g x (List.replicate k none ++ capσ js σ) H' fun σ2 H2 => σ2.drop k = capσ js σ ∧ te σ2 H2 fun v H3 => ∃ xs, H3 D = some (.lst xs) ∧ xs.length < sizeLine ∧ ∃ m', m' < m ∧ W (i + 1) m' (upd H3 D (.lst (xs ++ [v]))))
def dComp (wi : TI) (g : TG) (te : TE) (k : Nat) (js : List Nat) : TE := fun σ H Q => wi σ H fun J H1 => CGoal J g te k js σ H1 Q
section
variable {X : Cx}
theorem comp_ok {pins : List (Addr × Obj)} {σ : L2.St} {H : Hp} {s : Shared} {N : List Str} {scope : Scope} {cl : List (Str × Addr)} {C : Addr} {fp : List Addr} (I : Inv X pins σ H s) (hk : scope.kind = .function) (hC : s.heap.objs.size ≤ C)
    (hcl : ∀ y c, cl.lookup y = some c → X.env.cells.lookup y = some c) (hhas : ∀ y, ((relabel scope X.env).names.lookup y = some .cell ∨ (relabel scope X.env).names.lookup y = some .free) → ∃ c, cl.lookup y = some c)
    (hf : ∀ b ∈ fp, FpOk X pins H b ∧ b < s.heap.objs.size) : (cxC X N s H (compEnvC scope cl C X.env) fp).Ok where
  mod := I.ok.mod
  kind := hk
  glob := I.ok.glob
  blt := I.ok.blt
  above := hC
  inj := fun x y c e1 e2 => I.ok.inj x y c (hcl x c e1) (hcl y c e2)
  has := fun x h => hhas x h
  cab := fun x c z => absurd z (by simp)
  hd := I.ok.hd
  frames := I.ok.frames
  stk := .inl rfl
  exf := fun b hb => ⟨Nat.ne_of_lt (Nat.lt_of_lt_of_le (hf b hb).2 hC), fun x c e => (hf b hb).1.2.2.2.2.1 x c (hcl x c e)⟩
  bs := I.bs
  bsz := Nat.le_trans I.ok.bsz I.sz
  noex := fun b o e hb => by
    rcases (hf b hb).1.2.2.2.1 with z | z
    · exact I.ok.noex b o e z
    · exact absurd (Nat.lt_of_lt_of_le (Heap.lt_size (I.ok.bs b o e).1) z) (Nat.lt_irrefl _)
  exfs := fun b hb hm => by
    rcases List.mem_cons.mp (I.stkSub b hm) with z | z
    · exact (hf b hb).1.2.1 z
    · exact (hf b hb).1.2.2.1 z
  funs := I.stack
  frf := I.stkFree
theorem comp_core {elt iter tg : Expr} {scope : Scope} {pos : Pos} {wi : TI} {te : TE} {g : TG} {N : List Str} {cl : List (Str × Addr)} (k : Nat) (js : List Nat) (hi : PI X tg iter wi)
    (hg : ∀ C s H fp, PG (cxC X N s H (compEnvC scope cl C X.env) fp) tg g) (he : ∀ C s H fp, PE (cxC X N s H (compEnvC scope cl C X.env) fp) elt te) (hcalm : X.calm = true)
    (hclos : closureFor scope X.env = pure cl) (hkind : scope.kind = .function) (hcell : ∀ y ∈ scope.names, y.2 ≠ .cell) (hnames : ∀ y ∈ scope.names, y.2 = .local → scope.names.lookup y.1 = some .local)
    (hcl : ∀ y c, cl.lookup y = some c → X.env.cells.lookup y = some c) (hhas : ∀ y, ((relabel scope X.env).names.lookup y = some .cell ∨ (relabel scope X.env).names.lookup y = some .free) → ∃ c, cl.lookup y = some c)
    (hlen : N.length = k + js.length) (hcap : ∀ i j, js[i]? = some j → ∃ y, N[k + i]? = some y ∧ Cap X (relabel scope X.env) cl j y)
    (hs : ∀ x, foldedSetIterable iter X.env x = pure x) {pins : List (Addr × Obj)} {s : Shared} {σ : L2.St} {H : Hp} {Q : VK} (I : Inv X pins σ H s) (h : dComp wi g te k js σ H Q) {cpos : Pos} {use : Option (Value → Sem Unit)} {Qv : Value → Shared → Prop}
    (fin : ∀ (s6 : Shared) (H5 : Hp) (D C : Addr) (m : Str → Option Value), Inv X pins σ H5 s6 → s6.heap.Ns C m → H5 C = none → X.s₀.heap.objs.size ≤ C → C ≠ X.env.locals → (∀ x c, X.env.cells.lookup x = some c → c ≠ C) → (∀ p ∈ X.pn ++ pins, p.1 ≠ C) → Q (.ref D) H5 →
      compPost (model X.prog X.w) X.A X.xe use Qv (.ref D) C (.ok .next) s6) :
    wpAny (model X.prog X.w) X.A (comprehension (.ListComp elt [⟨tg, iter, [], 0⟩] scope pos) scope X.env cpos (newList []) false (eval iter X.env) use) Qv X.xe s := by
  refine wpAny_comprehension_free (use := use) rfl hs hclos hkind hnames (thn (hi pins s σ H _ I h) fun v s1 h1 => thn h1 fun itv s2 h2 => ?_)
  obtain ⟨it, fp, tn, J, H2, rfl, I2, T, st2, f2, h2⟩ := h2
  refine wpAny_newObj_type ?_
  have hD : H2 s2.heap.objs.size = none := I2.hok.fresh (Nat.le_refl _)
  unfold CGoal at h2
  obtain ⟨W, ⟨m0, w0⟩, turn⟩ := h2 _ hD
  have I3 : Inv X pins σ (upd H2 s2.heap.objs.size (.lst [])) { s2 with heap := s2.heap.push { cls := .type "list", dict := none, data := .seq ([] : List Value).toArray } } :=
    I2.laid (t' := s2.toks) (fun b u e => Heap.get?_push_of_some _ e) (Nat.le_refl _) ⟨Nat.zero_le _, [], 0, .nil, Heap.get?_push_size _ rfl⟩
  have hlt : ∀ b ∈ fp, b < s2.heap.objs.size := fun b hb => by
    obtain ⟨o, e, _⟩ := T.obj _ _ st2 b hb
    exact Heap.lt_size e
  have f3 : ∀ b ∈ fp, FpOk X pins (upd H2 s2.heap.objs.size (.lst [])) b := fun b hb => ⟨by rw [upd_ne (Nat.ne_of_lt (hlt b hb))]; exact (f2 b hb).1, (f2 b hb).2⟩
  have st3 : tn 0 (s2.heap.push { cls := .type "list", dict := none, data := .seq ([] : List Value).toArray }) := T.keep _ _ _ st2 fun b hb o e => Heap.get?_push_of_some _ e
  have hlt3 : ∀ b ∈ fp, b < (s2.heap.push { cls := .type "list", dict := none, data := .seq ([] : List Value).toArray }).objs.size := fun b hb => Nat.lt_of_lt_of_le (hlt b hb) (by rw [Heap.size_push]; exact Nat.le_succ _)
  generalize hs3 : ({ s2 with heap := s2.heap.push { cls := .type "list", dict := none, data := .seq ([] : List Value).toArray } } : Shared) = s3 at I3
  have eh : s3.heap = s2.heap.push { cls := .type "list", dict := none, data := .seq ([] : List Value).toArray } := by rw [← hs3]
  rw [← eh] at st3 hlt3
  generalize hDD : s2.heap.objs.size = D at *
  generalize hH3 : upd H2 D (.lst []) = H3 at *
  clear hs3 eh
  refine wpAny_newFunctionEnv (s := s3) hcell (by intro y hy; simp at hy) (fun h4 n4 sb4 => ?_) hkind
  have Ok := comp_ok (N := N) (C := s3.heap.objs.size) I3 hkind (Nat.le_refl _) hcl hhas fun b hb => ⟨f3 b hb, hlt3 b hb⟩
  show codeAny _ _ (.compStart (.ListComp elt [⟨tg, iter, [], 0⟩] scope pos) 0 (.ref it) (.ref D) (compEnvC scope cl s3.heap.objs.size X.env)) _ _
  generalize hC : s3.heap.objs.size = C at *
  have old : ∀ b o, s3.heap.get? b = some o → h4.get? b = some o := fun b o e => sb4.extBut b o (by rw [← hC]; exact Nat.ne_of_lt (Heap.lt_size e)) (Heap.get?_push_of_some _ e)
  have fresh : H3 C = none := I3.hok.fresh (by rw [hC]; exact Nat.le_refl _)
  have hcapl : ∀ {i : Nat} {x : Str} {v : V}, N[i]? = some x → (List.replicate k none ++ capσ js σ)[i]? = some (some v) → ∃ u, L2.RelV v u ∧ Look (compEnvC scope cl C X.env) h4 (fun _ => none) x u := by
    intro i x v e1 e2
    by_cases hik : i < k
    · rw [List.getElem?_append_left (by simpa using hik)] at e2
      rw [List.getElem?_replicate] at e2
      simp [hik] at e2
    · rw [List.getElem?_append_right (by simpa using Nat.le_of_not_lt hik), List.length_replicate] at e2
      unfold capσ at e2
      rw [List.getElem?_map] at e2
      cases ej : js[i - k]? with
      | none =>
        rw [ej] at e2
        cases e2
      | some j =>
        rw [ej] at e2
        have e2 : (σ[j]?).join = some v := Option.some.inj e2
        obtain ⟨y, hy, cp⟩ := hcap _ _ ej
        rw [show k + (i - k) = i by omega, e1] at hy
        cases hy
        obtain ⟨m, _, hl⟩ := I3.loc
        have e3 : σ[j]? = some (some v) := by
          cases q : σ[j]? with
          | none =>
            rw [q] at e2
            cases e2
          | some o =>
            rw [q] at e2
            have : o = some v := e2
            rw [this]
        obtain ⟨u, ru, lk⟩ := hl j x v cp.nm e3 (.inr (.inl cp.ko))
        refine ⟨u, ru, ?_⟩
        rcases lk with ⟨z, _⟩ | ⟨_, c, hc, z⟩
        · rw [cp.ko] at z
          cases z
        · refine .inr ⟨.inl cp.ki, c, by rw [← hc]; exact cp.cl, ?_⟩
          obtain ⟨o, e, d⟩ := z
          exact ⟨o, old _ _ e, d⟩
  have I4 : Inv (cxC X N s3 H3 (compEnvC scope cl C X.env) fp) [] (List.replicate k none ++ capσ js σ) H3 { s3 with heap := h4, toks := s3.toks + ([] : List (Str × Value)).length } := by
    refine ⟨Ok, rfl, I3.bare, Un.kept old, ⟨_, n4, fun i x v e1 e2 e3 => ?_⟩, fun x c e => ?_, fresh, fun x c e => I3.freeC x c (hcl x c e), fun p hp => absurd hp (by simp), I3.hok.kept old, ?_⟩
    · obtain ⟨u, ru, lk⟩ := hcapl e1 e2
      refine ⟨u, ru, ?_⟩
      rcases lk with ⟨z, q⟩ | q
      · cases q
      · exact .inr q
    · obtain ⟨v, o, e1, d⟩ := I3.cell x c (hcl x c e)
      exact ⟨v, o, old _ _ e1, d⟩
    · simp [capσ, hlen]
  have fp4 : ∀ {H' : Hp}, (∀ b ∈ fp, H' b = none) → ∀ b ∈ fp, FpOk (cxC X N s3 H3 (compEnvC scope cl C X.env) fp) [] H' b := fun hn b hb =>
    ⟨hn b hb, (Ok.exf b hb).1, Ok.exfs b hb, .inl hb, fun x c e => (Ok.exf b hb).2 x c e, fun p hp => absurd hp (by simp)⟩
  have st4 : tn 0 h4 := T.keep _ _ _ st3 fun b hb o e => old b o e
  have run : ∀ s4 : Shared, s4 = { s3 with heap := h4, toks := s3.toks + ([] : List (Str × Value)).length } →
      codeAny (model X.prog X.w) X.A (.compLoop (.ListComp elt [⟨tg, iter, [], 0⟩] scope pos) 0 (.ref it) (.ref D) (compEnvC scope cl C X.env)) (compPost (model X.prog X.w) X.A X.xe use Qv (.ref D) C) s4 := by
    rintro s4 rfl
    refine loop_comp (fun n s' => ∃ i H' σ', Inv (cxC X N s3 H3 (compEnvC scope cl C X.env) fp) [] σ' H' s' ∧ (∀ j : Nat, ∀ v, (List.replicate k none ++ capσ js σ)[j]? = some (some v) → σ'[j]? = some (some v)) ∧ tn i s'.heap ∧ (∀ b ∈ fp, H' b = none) ∧ W i n H') ?_ m0
      ⟨0, H3, _, I4, fun _ _ z => z, st4, fun b hb => (f3 b hb).1, w0⟩
    rintro n s5 ⟨i, H5, σ5, I5, cap5, st5, fr5, w5⟩
    have I5' := I5.weak (σ' := List.replicate k none ++ capσ js σ) (by rw [I5.len]; simp [capσ, hlen]) cap5
    rcases turn i n H5 w5 with ⟨stop, q⟩ | ⟨go, step⟩
    · refine thn (T.done (cxC X N s3 H3 (compEnvC scope cl C X.env) fp) rfl rfl rfl hcalm i [] s5 σ5 H5 _ I5 (fp4 fr5) st5 stop) fun r s6 ⟨hr, I6⟩ => .inl ⟨hr, ?_⟩
      obtain ⟨m6, n6, _⟩ := I6.loc
      have hCf : H5 C = none := I6.free
      have u6 := I6.base
      have uC : Un (frs X.stack) fp H3 H5 s3.heap s6.heap := ⟨u6.keep, u6.slot, u6.free, u6.there, u6.tups, u6.frzs, u6.tbls⟩
      have I7 : Inv X pins σ H5 s6 := I3.call' (s' := s6) I6.os uC I6.hok I6.bare fun b hb => ⟨(f3 b hb).2.2.2.1, (f3 b hb).2.1, (f3 b hb).2.2.2.2.1, (f3 b hb).2.2.2.2.2⟩
      have lt3 : ∀ b o, s3.heap.get? b = some o → b ≠ C := fun b o e => by rw [← hC]; exact Nat.ne_of_lt (Heap.lt_size e)
      refine fin s6 H5 D C m6 I7 n6 hCf (by rw [← hC]; exact I3.sz) (by rw [← hC]; exact Nat.ne_of_gt I3.lt) (fun x c e => ?_) (fun p hp => lt3 p.1 p.2 (I3.pin p hp).1) q
      obtain ⟨v, o, e1, _⟩ := I3.cell x c e
      exact lt3 c o e1
    · refine thn (T.item (cxC X N s3 H3 (compEnvC scope cl C X.env) fp) rfl rfl rfl hcalm i [] s5 _ H5 _ I5' (fp4 fr5) st5 go) fun r s6 ⟨u, hr, h6⟩ => .inr ⟨u, hr, ?_⟩
      refine thn h6 fun _ s7 ⟨x, H7, I7, r7, y7, st7, fr7⟩ => ?_
      have I7' := I7.pinned (fp4 fr7) (T.obj _ _ st7)
      refine thn (hg C s3 H3 fp _ s7 _ H7 x u _ I7' r7 (step x H7 y7)) fun _ s8 ⟨σ8, H8, I8, d8, q8⟩ => ?_
      refine thn (he C s3 H3 fp _ s8 σ8 H8 _ I8 q8) fun vv s9 ⟨vx, H9, I9, r9, xs, hx9, hz9, m', hm', w9⟩ => ?_
      obtain ⟨z9, its, n9, rl, e9⟩ := (show ObjOk X.prog X.w H9 s9.heap D (.lst xs) from I9.hok D _ hx9)
      have app := mt_append (X := cxC X N s3 H3 (compEnvC scope cl C X.env) fp) _ s9 σ8 H9 (.ref D) [vx] (.ref D) [vv] (fun _ H' => H' = upd H9 D (.lst (xs ++ [vx]))) I9 rfl (.cons r9 .nil) ⟨D, xs, vx, rfl, rfl, hx9, hz9, rfl⟩
      refine thn app fun _ s10 ⟨_, H10, I10, _, e10⟩ => ?_
      subst e10
      refine ⟨m', hm', i + 1, _, σ8, I10.unpinned (pins := []), ?_, T.keep _ _ _ st7 fun b hb o e => (I10.pin (b, o) (List.mem_append_right _ (List.mem_append_right _ (mem_pinsAt hb e)))).1, fun b hb => ?_, w9⟩
      · intro j v e
        by_cases hjk : j < k
        · rw [List.getElem?_append_left (by simpa using hjk), List.getElem?_replicate] at e
          simp [hjk] at e
        · rw [List.getElem?_append_right (by simpa using Nat.le_of_not_lt hjk), List.length_replicate, ← d8, List.getElem?_drop] at e
          rw [show k + (j - k) = j by omega] at e
          exact e
      · obtain ⟨o, e, d⟩ := T.obj _ _ st7 b hb
        exact (I10.pin (b, o) (List.mem_append_right _ (List.mem_append_right _ (mem_pinsAt hb e)))).2.1
  exact codeAny_compStart_list (run _ rfl) (T.self X.A 0 _ _ _ st4 (run _ rfl))
theorem e_comp {elt iter tg : Expr} {scope : Scope} {pos : Pos} {wi : TI} {te : TE} {g : TG} {N : List Str} {cl : List (Str × Addr)} (k : Nat) (js : List Nat) (hi : PI X tg iter wi)
    (hg : ∀ C s H fp, PG (cxC X N s H (compEnvC scope cl C X.env) fp) tg g) (he : ∀ C s H fp, PE (cxC X N s H (compEnvC scope cl C X.env) fp) elt te) (hcalm : X.calm = true)
    (hclos : closureFor scope X.env = pure cl) (hkind : scope.kind = .function) (hcell : ∀ y ∈ scope.names, y.2 ≠ .cell) (hnames : ∀ y ∈ scope.names, y.2 = .local → scope.names.lookup y.1 = some .local)
    (hcl : ∀ y c, cl.lookup y = some c → X.env.cells.lookup y = some c) (hhas : ∀ y, ((relabel scope X.env).names.lookup y = some .cell ∨ (relabel scope X.env).names.lookup y = some .free) → ∃ c, cl.lookup y = some c)
    (hlen : N.length = k + js.length) (hcap : ∀ i j, js[i]? = some j → ∃ y, N[k + i]? = some y ∧ Cap X (relabel scope X.env) cl j y)
    (hs : ∀ x, foldedSetIterable iter X.env x = pure x := by intro _; rfl) : PE X (.ListComp elt [⟨tg, iter, [], 0⟩] scope pos) (dComp wi g te k js) := by
  intro pins s σ H Q I h
  rw [eval_ListComp]
  refine comp_core k js hi hg he hcalm hclos hkind hcell hnames hcl hhas hlen hcap hs I h fun s6 H5 D C m I6 n6 z1 z2 z3 z4 z5 q => ⟨m, n6, fun h7 sb7 => ⟨.ref D, H5, ?_, rfl, q⟩⟩
  exact I6.turned (t' := s6.toks) (fun b o hb e => (sb7.2 b hb).trans e) z1 z3.symm.symm (.inr z2) z4 z5
def CapL (X : Cx) (sc : Scope) (cl : List (Str × Addr)) : List Str → List Nat → Prop
  | y :: ys, j :: js => Cap X sc cl j y ∧ CapL X sc cl ys js
  | [], [] => True
  | _, _ => False
theorem CapL.len {sc : Scope} {cl : List (Str × Addr)} : ∀ {ys : List Str} {js : List Nat}, CapL X sc cl ys js → ys.length = js.length
  | [], [], _ => rfl
  | _ :: _, _ :: _, h => congrArg (· + 1) (CapL.len h.2)
  | [], _ :: _, h => h.elim
  | _ :: _, [], h => h.elim
theorem CapL.at {sc : Scope} {cl : List (Str × Addr)} : ∀ {ys : List Str} {js : List Nat}, CapL X sc cl ys js → ∀ (i j : Nat), js[i]? = some j → ∃ y, ys[i]? = some y ∧ Cap X sc cl j y
  | [], [], _, i, j, e => by simp at e
  | y :: ys, j :: js, h, 0, j', e => by
    cases e
    exact ⟨y, rfl, h.1⟩
  | y :: ys, j :: js, h, i + 1, j', e => CapL.at h.2 i j' (by simpa using e)
  | [], _ :: _, h, _, _, _ => h.elim
  | _ :: _, [], h, _, _, _ => h.elim
def CellL (cells : List (Str × Addr)) : List (Str × Addr) → Prop
  | [] => True
  | (y, c) :: r => cells.lookup y = some c ∧ CellL cells r
theorem CellL.at {cells : List (Str × Addr)} : ∀ {cl : List (Str × Addr)}, CellL cells cl → ∀ y c, cl.lookup y = some c → cells.lookup y = some c
  | [], _, y, c, e => by simp at e
  | (z, d) :: r, h, y, c, e => by
    rw [List.lookup_cons] at e
    cases q : y == z with
    | true =>
      rw [q] at e
      cases e
      rw [eq_of_beq q]
      exact h.1
    | false =>
      rw [q] at e
      exact CellL.at h.2 y c e
theorem lookup_has {y : Str} : ∀ {cl : List (Str × Addr)}, (cl.map (·.1)).contains y = true → ∃ c, cl.lookup y = some c
  | [], h => by simp at h
  | (z, d) :: r, h => by
    rw [List.lookup_cons]
    cases q : y == z with
    | true => exact ⟨d, rfl⟩
    | false =>
      refine lookup_has (cl := r) ?_
      rw [List.map_cons, List.contains_cons, q, Bool.false_or] at h
      exact h
theorem relabel_has {env : Env} {y : Str} : ∀ {names : List (Str × NameKind)} {k : NameKind}, (names.map fun (n, k) => if (k == NameKind.free && env.scope.kind == .function && env.kindOf n == some .cell) then (n, NameKind.cell) else (n, k)).lookup y = some k →
    (k = .cell ∨ k = .free) → ∃ z ∈ names, z.1 = y ∧ (z.2 = .free ∨ z.2 = .cell)
  | [], _, h, _ => by simp at h
  | (n, kd) :: r, k, h, hk => by
    rw [List.map_cons] at h
    by_cases hc : (kd == NameKind.free && env.scope.kind == .function && env.kindOf n == some .cell) = true
    · rw [show (match (n, kd) with | (n, k) => if (k == NameKind.free && env.scope.kind == .function && env.kindOf n == some .cell) = true then (n, NameKind.cell) else (n, k)) = (n, NameKind.cell) from if_pos hc, List.lookup_cons] at h
      cases q : y == n with
      | true =>
        rw [Bool.and_eq_true, Bool.and_eq_true] at hc
        exact ⟨(n, kd), List.mem_cons_self, (eq_of_beq q).symm, .inl (eq_of_beq hc.1.1)⟩
      | false =>
        rw [q] at h
        obtain ⟨z, hz, r1⟩ := relabel_has (names := r) h hk
        exact ⟨z, List.mem_cons_of_mem _ hz, r1⟩
    · rw [show (match (n, kd) with | (n, k) => if (k == NameKind.free && env.scope.kind == .function && env.kindOf n == some .cell) = true then (n, NameKind.cell) else (n, k)) = (n, kd) from if_neg hc, List.lookup_cons] at h
      cases q : y == n with
      | true =>
        rw [q] at h
        cases h
        exact ⟨(n, kd), List.mem_cons_self, (eq_of_beq q).symm, hk.symm⟩
      | false =>
        rw [q] at h
        obtain ⟨z, hz, r1⟩ := relabel_has (names := r) h hk
        exact ⟨z, List.mem_cons_of_mem _ hz, r1⟩
theorem e_compN {elt iter tg : Expr} {scope : Scope} {pos : Pos} {wi : TI} {te : TE} {g : TG} {cl : List (Str × Addr)} (own ys : List Str) (js : List Nat) (hclos : closureFor scope X.env = pure cl) (hi : PI X tg iter wi)
    (hg : ∀ C s H fp, PG (cxC X (own ++ ys) s H (compEnvC scope cl C X.env) fp) tg g) (he : ∀ C s H fp, PE (cxC X (own ++ ys) s H (compEnvC scope cl C X.env) fp) elt te) (hcalm : X.calm = true) (hkind : scope.kind = .function)
    (hcell : (scope.names.all fun y => y.2 != .cell) = true) (hnames : (scope.names.all fun y => y.2 != .local || scope.names.lookup y.1 == some .local) = true) (hfr : (scope.names.all fun y => y.2 != .free || (cl.map (·.1)).contains y.1) = true)
    (hcl : CellL X.env.cells cl) (hcap : CapL X (relabel scope X.env) cl ys js) (hs : ∀ x, foldedSetIterable iter X.env x = pure x := by intro _; rfl) :
    PE X (.ListComp elt [⟨tg, iter, [], 0⟩] scope pos) (dComp wi g te own.length js) := by
  rw [List.all_eq_true] at hcell hnames hfr
  have hc : ∀ y ∈ scope.names, y.2 ≠ .cell := fun y hy z => by
    have := hcell y hy
    rw [z] at this
    cases this
  refine e_comp own.length js hi hg he hcalm hclos hkind hc (fun y hy z => ?_) hcl.at (fun y h => ?_) (by rw [List.length_append, hcap.len]) (fun i j e => ?_) hs
  · have := hnames y hy
    rw [z] at this
    simpa using this
  · obtain ⟨z, hz, rfl, hk⟩ : ∃ z ∈ scope.names, z.1 = y ∧ (z.2 = .free ∨ z.2 = .cell) := by
      rcases h with h | h
      · exact relabel_has h (.inl rfl)
      · exact relabel_has h (.inr rfl)
    rcases hk with hk | hk
    · have := hfr z hz
      rw [hk] at this
      exact lookup_has (by simpa using this)
    · exact absurd hk (hc z hz)
  · obtain ⟨y, h1, h2⟩ := hcap.at i j e
    exact ⟨y, by rw [List.getElem?_append_right (Nat.le_add_right _ _), Nat.add_sub_cancel_left]; exact h1, h2⟩
end
end Lw
end
section
set_option Elab.async false
set_option linter.all false
set_option maxRecDepth 100000
set_option maxHeartbeats 4000000
namespace Lw
open PySem PySem.Spec PyProof.Rows L2
section
variable {X : Cx} {pos p2 p3 p4 : Pos} {e : Expr} {te : TE}
def dSlS : V → Option Int → Option Int → Hp → VK → Prop := fun x lo hi H Q => match x with
  | .str z => z.length ≤ sizeLine ∧ Q (.str (Txt.slice z lo hi)) H
  | _ => False
theorem sl_str : SlR X dSlS := by
  intro pins s σ H x v vl vu lo hi sl Q I rx hs pl pu h
  cases x <;> first
    | exact False.elim h
    | (obtain ⟨hz, q⟩ := h
       obtain ⟨t, rfl⟩ := rx
       refine ⟨"str", _, F.slot_str_getitem.lookup, typeIs_str _ _ _, ?_⟩
       cases pl <;> cases pu
       · exact wpAny_getItem_str_slice (l := none) (u := none) (st := none) hs rfl (post_val_or_str ⟨Nat.le_trans (Txt.slice_le _ _ _) hz, fun t' k => ⟨.str _, H, I.tok _, ⟨_, rfl⟩, q⟩⟩)
       · exact wpAny_getItem_str_slice (l := none) (u := some (_, _)) (st := none) hs rfl (post_val_or_str ⟨Nat.le_trans (Txt.slice_le _ _ _) hz, fun t' k => ⟨.str _, H, I.tok _, ⟨_, rfl⟩, q⟩⟩)
       · exact wpAny_getItem_str_slice (l := some (_, _)) (u := none) (st := none) hs rfl (post_val_or_str ⟨Nat.le_trans (Txt.slice_le _ _ _) hz, fun t' k => ⟨.str _, H, I.tok _, ⟨_, rfl⟩, q⟩⟩)
       · exact wpAny_getItem_str_slice (l := some (_, _)) (u := some (_, _)) (st := none) hs rfl (post_val_or_str ⟨Nat.le_trans (Txt.slice_le _ _ _) hz, fun t' k => ⟨.str _, H, I.tok _, ⟨_, rfl⟩, q⟩⟩))
def dAddS : R2 := fun x y H Q => match x, y with
  | .str i, .str j => i.length + j.length ≤ sizeLine ∧ Q (.str (i ++ j)) H
  | _, _ => False
theorem o_addS : OpR X (binaryOp .Add) dAddS := by
  intro pins s σ H x y v u Q I rx ry q
  cases x <;> cases y <;> first
    | exact False.elim q
    | exact op_add_str _ _ _ _ _ _ _ _ _ I rx ry ⟨_, _, rfl, rfl, q.1, q.2⟩
def dIxS : R2 := fun x y H Q => match x, y with
  | .str z, .int i => ∃ c, z.length ≤ sizeLine ∧ atI z.cps.toList i = some c ∧ Q (.str ⟨#[c]⟩) H
  | _, _ => False
theorem i_str : IxR X dIxS := by
  intro value slice pins s σ H x y v u Q I rx ry h hs
  cases x <;> cases y <;> first
    | exact False.elim h
    | (obtain ⟨c, h1, h2, q⟩ := h
       exact ix_str value slice pins s σ H _ _ v u Q I rx ry ⟨_, _, c, rfl, rfl, h1, h2, q⟩ hs)
def dJoin (K : PySem.W.Frag) : V → List V → Hp → VK → Prop := fun x xs H Q => match x, xs with
  | .str sep, [.ref p] => ∃ ys : List Str, SqL K H p (ys.map V.str) ∧ (ys.map (·.length)).sum + ys.length * sep.length ≤ 16777216 ∧ Q (.str (Txt.join sep ys)) H
  | _, _ => False
def dListOf (K : PySem.W.Frag) : List V → Hp → VK → Prop := fun xs H Q => match xs with
  | [.ref p] => ∃ ys, (SqL K H p ys ∨ SqT K H p ys) ∧ ∀ l H', Same H H' → H' l = some (.lst ys) → Q (.ref l) H'
  | _ => False
theorem c_list : CallR X (.type "list") (dListOf X.K) := by
  intro pins s σ H xs us Q I r h
  match xs, h with
  | [.ref p], ⟨ys, h1, q⟩ => exact call_list_of pins s σ H _ us Q I r ⟨p, ys, rfl, h1, fun l hl => q l _ (same_upd hl) upd_same⟩
def dTupOf (K : PySem.W.Frag) : List V → Hp → VK → Prop := fun xs H Q => match xs with
  | [.ref p] => ∃ ys, SqL K H p ys ∧ ∀ l H', Same H H' → H' l = some (.tup ys) → Q (.ref l) H'
  | _ => False
def dInS (K : PySem.W.Frag) : R2 := fun x y H Q => match y with
  | .ref p => ∃ xs, (SqL K H p xs ∨ SqT K H p xs) ∧ flatV x = true ∧ xs.all flatV = true ∧ Q (.bl (inV x xs)) H
  | _ => False
def dRev (K : PySem.W.Frag) (te : TE) : TE := fun σ H Q => te σ H fun x H1 => match x with
  | .ref a => ∃ xs, SqL K H1 a xs ∧ ∀ p H', Same H1 H' → H' p = some (.lst xs.reverse) → Q (.ref p) H'
  | _ => False
end
end Lw
end
section
set_option Elab.async false
set_option linter.all false
set_option maxRecDepth 100000
set_option maxHeartbeats 4000000
namespace Lw
open PySem PySem.Spec PyProof.Rows L2
def co (x : Str) : List Nat := x.cps.toList
theorem co_len (x : Str) : (co x).length = x.length := by simp [co, Str.length]
theorem co_app (x y : Str) : co (x ++ y) = co x ++ co y := by
  show (x.cps ++ y.cps).toList = x.cps.toList ++ y.cps.toList
  rw [Array.toList_append]
theorem co_one (c : Nat) : co ⟨#[c]⟩ = [c] := rfl
theorem co_inj {x y : Str} (h : co x = co y) : x = y := by
  obtain ⟨x⟩ := x
  obtain ⟨y⟩ := y
  have : x = y := Array.toList_inj.mp h
  rw [this]
theorem len_app (x y : Str) : (x ++ y).length = x.length + y.length := by
  rw [← co_len, co_app, List.length_append, co_len, co_len]
theorem rng_gen (a b : Nat) : sliceRange (a : Int) (b : Int) 1 = (List.range (b - a)).map (fun k => a + k) := by
  unfold sliceRange
  simp only [show ((1 : Int) > 0) = True from by simp, if_true]
  by_cases h : (a : Int) < b
  · have e3 : (((b : Int) - a + 1 - 1) / 1).toNat = b - a := by omega
    simp only [h, if_true, e3]
    refine List.map_congr_left fun k _ => ?_
    omega
  · have : b - a = 0 := by omega
    simp [h, this]
theorem clip_gen (n d : Nat) (i : Int) : max (0 : Int) (min (if i < 0 then i + (n : Int) else i) (n : Int)) = ((HT.sIx n d (some i) : Nat) : Int) := by
  show _ = (((if i < 0 then (i + (n : Int)).toNat else min i.toNat n) : Nat) : Int)
  by_cases h : i < 0
  · simp only [if_pos h]; omega
  · simp only [if_neg h]; omega
theorem idx_gen (lo hi : Option Int) (n : Nat) : Builtin.Str.strSliceIndices lo hi 1 n = (List.range (HT.sIx n n hi - HT.sIx n 0 lo)).map (fun k => HT.sIx n 0 lo + k) := by
  rw [← rng_gen]
  unfold Builtin.Str.strSliceIndices
  simp only [show ((1 : Int) > 0) = True from by simp, if_true]
  cases lo with
  | none =>
    cases hi with
    | none => rfl
    | some j =>
      show sliceRange 0 (max (0 : Int) (min (if j < 0 then j + (n : Int) else j) (n : Int))) 1 = _
      rw [clip_gen n n j]
      rfl
  | some i =>
    cases hi with
    | none =>
      show sliceRange (max (0 : Int) (min (if i < 0 then i + (n : Int) else i) (n : Int))) (n : Int) 1 = _
      rw [clip_gen n 0 i]
      rfl
    | some j =>
      show sliceRange (max (0 : Int) (min (if i < 0 then i + (n : Int) else i) (n : Int))) (max (0 : Int) (min (if j < 0 then j + (n : Int) else j) (n : Int))) 1 = _
      rw [clip_gen n 0 i, clip_gen n n j]
theorem co_slice (x : Str) (lo hi : Option Int) : co (Txt.slice x lo hi) = ((co x).drop (HT.sIx x.length 0 lo)).take (HT.sIx x.length x.length hi - HT.sIx x.length 0 lo) := by
  have ha := HT.sIx_le x.length 0 (Nat.zero_le _) lo
  have hb := HT.sIx_le x.length x.length (Nat.le_refl _) hi
  have hl := co_len x
  unfold Txt.slice
  rw [idx_gen]
  generalize HT.sIx x.length 0 lo = a at *
  generalize HT.sIx x.length x.length hi = b at *
  split
  · rename_i h
    have h2 : b - a = x.length := by simpa using h
    have a0 : a = 0 := by omega
    subst a0
    rw [List.drop_zero, List.take_of_length_le (by omega)]
  · have p := StrLaws.picks (co x) (b - a) a (by omega)
    rw [← p]
    show (List.filterMap _ _).toArray.toList = _
    rw [List.toList_toArray]
    congr 1
    funext k
    show x.cps[k]? = x.cps.toList[k]?
    rw [Array.getElem?_toList]
theorem co_cut {x : Str} {i j : Nat} (h : i ≤ x.length) (h' : j ≤ x.length) : co (Txt.slice x (some (i : Int)) (some (j : Int))) = ((co x).drop i).take (j - i) := by
  rw [co_slice, HT.sIx_nat, HT.sIx_nat, Nat.min_eq_left h, Nat.min_eq_left h']
def abc : Str := Str.ofString "abcdefghijklmnopqrstuvwxyz"
def lt (n : Int) : Nat := 97 + (n % 26).toNat
structure Nm (x : Str) : Prop where
  len1 : 1 ≤ (co x).length
  len8 : (co x).length ≤ 8
  abc : ∀ c ∈ co x, 97 ≤ c ∧ c < 123
theorem ok_of {x : Str} (h : ∀ c ∈ co x, c < 1114112) : PyData.strOk x = true := by
  unfold PyData.strOk
  rw [← Array.all_toList, List.all_eq_true]
  exact fun c hc => decide_eq_true (h c hc)
def baseL (fi : Int) : List Nat := ((List.range 8).map fun j : Nat => [lt (fi + (j : Int) * j)]).flatten
def nameA (L : List Nat) (k : Nat) : List Nat := L.take (k + 1)
def nameB (L : List Nat) (at' sz : Nat) (fi : Int) (k : Nat) : List Nat := L.take at' ++ [lt (fi + (at' : Int) * at' + (k : Int))] ++ (L.drop (at' + 1)).take (sz - (at' + 1))
end Lw
end
section
set_option Elab.async false
set_option linter.all false
set_option maxRecDepth 100000
set_option maxHeartbeats 4000000
set_option autoImplicit false
namespace Lw
open PySem PySem.Spec PyProof.Rows L2
def vB : List Value := [.type "ValueError", .type "Exception", .type "BaseException", .type "object"]
structure ExcC (K : PySem.W.Frag) (C : Addr) : Prop where
  nw : PySem.W.excIn K C vB "ValueError.__new__" = true
  ga : PySem.W.findIn K (.ref C) "__getattribute__" = some (some (.builtin "BaseException.__getattribute__"))
  gn : PySem.W.findIn K (.ref C) "__getattr__" = some none
  cl : PySem.W.findIn K (.ref C) "__class__" = some (some (.builtin "object.__class__"))
  mo : PySem.W.mroIn K C (.type "object") = some true
  mb : PySem.W.mroIn K C (.type "BaseException") = some true
theorem own_cls {K : PySem.W.Frag} {h : Heap} {mg : Str → Option Value} {x : Str} {C : Addr} {bmB : List Value} {newId : String} (X : K.In h) (b : mg x = some (.ref C)) (q : PySem.W.excIn K C bmB newId = true) : OwnCls x C bmB newId mg h := by
  refine ⟨b, ?_⟩
  unfold PySem.W.excIn at q
  split at q
  · rename_i d0 cd sl lk
    split at q
    · rename_i C' bm a0 a1 a2 a3 n a5 hm hs
      simp only [Bool.and_eq_true, beq_iff_eq, Bool.not_eq_true'] at q
      obtain ⟨⟨⟨⟨⟨e1, e2⟩, hdel⟩, ht⟩, hok⟩, hni⟩ := q
      subst e1 e2
      obtain ⟨nm, bs, mro, ns, qn, hd, sn, sub, ab, col, del⟩ := cd
      dsimp only at hm hdel hok hni
      subst hm hdel
      have e : sl = #[a0, a1, a2, a3, some (.builtin n), a5] := by
        obtain ⟨l⟩ := sl
        simp only at hs
        rw [hs]
      subst e
      have N0 : h.isNs ns = true := PySem.W.isNs_of_in X hok
      exact ⟨bm, ns, nm, qn, bs, hd, sn, sub, ab, col, d0, a0, a1, a2, a3, a5, _, X _ _ lk, .of_isNs N0, PySem.W.nsMap_none_of_in X hok hni, PySem.W.tail_of_in X ht⟩
    · cases q
  · cases q
theorem exc_lk {K : PySem.W.Frag} {C : Addr} {bmB : List Value} {newId : String} (q : PySem.W.excIn K C bmB newId = true) : ∃ dd cd sl, K.lookup C = some ⟨.type "type", dd, .cls cd, sl⟩ := by
  unfold PySem.W.excIn at q
  split at q
  · rename_i d0 cd sl lk
    exact ⟨_, _, _, lk⟩
  · cases q
def tRaise (E : XK) (cls : Value) : TS := fun _ _ H => E cls none H
section
variable {P : Program} {w : World} {K : PySem.W.Frag} {mg : Str → Option Value} {base : Heap} {N : List Str} {qual : Str} {scope : Scope} {f : Addr} {cd : Value} {A : Around} {outer : List Env} {s₀ : Shared} {H₀ : Hp} {E : XK}
theorem ps_raise {x : Str} {C : Addr} {np cpos pos p : Pos} {txt : Str} {j : Nat} (hb : mg x = some (.ref C)) (c : ExcC K C) (hg : Gl (cxOf (CXE P w) P w K mg base N qual scope f cd A outer s₀ H₀ E) x) (hd : (x == ("__debug__" : Str)) = false := by decide) :
    PS (cxOf (CXE P w) P w K mg base N qual scope f cd A outer s₀ H₀ E) (.Raise (some (.Call (.Name x np) [.Constant (.str txt) j p] [] cpos)) none pos) (tRaise E (.ref C)) := by
  intro pins s σ H D I h
  have O := own_cls (h := s.heap) I.kIn hb c.nw
  obtain ⟨tl, ns, nm, q, bs, hdct, sn, sub, ab, col, dd, k0, k1, k2, k3, k5, mN, hC, hN, hni, T⟩ := O.obj
  have FB := PySem.F.excBase_ValueError
  refine wpAny_Raise_call_subT (C := C) (nm := nm) (q := q) (N := ns) (bs := bs) (bm := tl) (hdct := hdct) (sn := sn) (sub := sub) (ab := ab) (col := col) (dd := dd) (k0 := k0) (k1 := k1) (k2 := k2) (k3 := k3) (k5 := k5)
    (mN := mN) FB (T.hasType FB.hasBase) (I.ok.hd rfl) rfl hni (ld_glob I hg hb ⟨rfl, ?_⟩ hd)
  refine Calls.evalArgs_plain ?_
  refine spliced_more (Calls.Constant_str (Calls.spliced_nil ?_))
  exact ⟨rfl, (by show 1 ≤ sizeLine; decide), hC, hN, T, fun h' e hx => raiseX (I.tok _) hx h⟩
end
def dCallX (sp : Sp) (E : XK) (t : TA) : TE := fun σ H Q => t σ H fun vs H1 => sp vs H1 Q E
section
variable {P : Program} {w : World} {K : PySem.W.Frag} {mg : Str → Option Value} {base : Heap} {N : List Str} {qual : Str} {scope : Scope} {f : Addr} {cd : Value} {A : Around} {outer : List Env} {s₀ : Shared} {H₀ : Hp} {E : XK}
theorem e_callX {x : Str} {ps : List Str} {k k' : Nat} {sp : Sp} {p pos : Pos} {e : Expr} {es : List Expr} {t : TA} (C : Cal P w K mg base x ps k sp) (hr : Room k' (cxOf (CXE P w) P w K mg base N qual scope f cd A outer s₀ H₀ E).A) (hk : k ≤ k') (hg : Gl (cxOf (CXE P w) P w K mg base N qual scope f cd A outer s₀ H₀ E) x)
    (ha : PA (cxOf (CXE P w) P w K mg base N qual scope f cd A outer s₀ H₀ E) (e :: es) t) (hdb : (x == ("__debug__" : Str)) = false := by decide)
    (he : starEach (e :: es) (cxOf (CXE P w) P w K mg base N qual scope f cd A outer s₀ H₀ E).env = (false, eval e (cxOf (CXE P w) P w K mg base N qual scope f cd A outer s₀ H₀ E).env) :: starEach es (cxOf (CXE P w) P w K mg base N qual scope f cd A outer s₀ H₀ E).env := by rfl)
    (hpl : (backTo pos (starEach es (cxOf (CXE P w) P w K mg base N qual scope f cd A outer s₀ H₀ E).env)).any (·.1) = false := by rfl) :
    PE (cxOf (CXE P w) P w K mg base N qual scope f cd A outer s₀ H₀ E) (.Call (.Name x p) (e :: es) [] pos) (dCallX sp E t) := by
  obtain ⟨f', fd, h1, h2, h3, h4, _⟩ := C.ex
  have z := pe_call (X := cxOf (CXE P w) P w K mg base N qual scope f cd A outer s₀ H₀ E) (pos := pos) (p := p) (h4.mono hk) hr hg h1 h2 h3 .nil (passX (E := E)) ha hdb he hpl
  have e1 : tCall sp [] E t = dCallX sp E t := by
    funext σ H Q
    unfold tCall dCallX
    simp only [List.append_nil]
  rw [e1] at z
  exact z
end
def ExcAt (a C : Addr) : Heap → Prop := fun h => ∃ o vs, h.get? a = some o ∧ o.cls = .ref C ∧ o.data = .fields vs
section
variable {prog : Program} {w : World} {A : Around} {E : Value → Shared → Prop} {K : PySem.W.Frag} {x C : Addr}
theorem exc_ty {M : Model} {h : Heap} (p : ExcAt x C h) : PySem.W.Looks M h (typeOf (.ref x)) (.ref C) := by
  obtain ⟨o, vs, e, c, _⟩ := p
  exact c ▸ (PySem.W.Looks.ld e).andThen .now
theorem exc_gcls {R : Result → Shared → Prop} {s : Shared} {tp : Value} (X : K.In s.heap) (p : ExcAt x C s.heap) (c : ExcC K C) (h : R (.ok (.ret (.ref C))) s) :
    codeAny (model prog w) A (.call (.builtin "getset_descriptor.__get__") ⟨[.builtin "object.__class__", .ref x, tp], []⟩) R s := by
  obtain ⟨hh, g, d, t, os⟩ := s
  have l1 := exc_ty (M := model prog w) p
  have l2 := PySem.W.looks_mroIn (M := model prog w) X c.mo
  refine codeAny_call_builtin PySem.W.KF.slot_gs.plain PySem.W.KF.entry_gs ?_
  refine PySem.W.KF.slot_gs.check _ _ _ _ _ _ _ _ PySem.W.KF.type_class (PySem.W.KF.args_gs _ _ _) ?_
  unfold Builtin.«getset_descriptor.__get__» Builtin.Getset_descriptor.descrGet
  rw [PySem.W.dga_obj]
  refine wpAny_bind (wpAny_pure ?_)
  unfold Builtin.Getset_descriptor.descrGetter Builtin.Getset_descriptor.descrCheckInstance
  unfold Builtin.Getset_descriptor.descrNameAndClass isInstance
  simp only [PySem.W.KF.owner_class]
  repeat lk
  refine ⟨Code.quiet_builtin _ (by decide +kernel), ?_⟩
  refine codeAny_builtin PySem.W.KF.entry_class ?_
  unfold Builtin.«object.__class__» shownTypeOf
  repeat lk
  exact h
theorem exc_chk {M : Model} {h : Heap} {g : Array GenState} {d : Drawn} {t : Nat} {os : OsState} {nameV : Value} {Q : Unit → Shared → Prop} (X : K.In h) (p : ExcAt x C h) (c : ExcC K C) (hq : Q () ⟨h, g, d, t, os⟩) :
    wpAny M A (checkBuiltinCall "BaseException.__getattribute__" ⟨[.ref x, nameV], []⟩) Q E ⟨h, g, d, t, os⟩ := by
  have e1 : builtinKind "BaseException.__getattribute__" = some .slot := by decide +kernel
  have e2 : splitId "BaseException.__getattribute__" = some ("BaseException", "__getattribute__") := by decide +kernel
  have l1 := exc_ty (M := M) p
  have l2 := PySem.W.looks_mroIn (M := M) X c.mb
  have l3 : PySem.W.Looks M h (isInstance (.ref x) (.type "BaseException")) true := l1.andThen l2
  have ar := F.args_bexc_ga (.ref x) nameV
  simp only [checkBuiltinCall, e1, e2]
  refine wpAny_bind (l3.at ?_)
  repeat (first | assumption | wp_step)
theorem exc_get {s : Shared} {tk : Tok} {Q : Fin → Shared → Prop} (X : K.In s.heap) (p : ExcAt x C s.heap) (c : ExcC K C) (hq : Q (.done (.ret (.ref C))) s) :
    wpAny (model prog w) A (Builtin.«object.__getattribute__» ⟨[.ref x, .str "__class__" tk], []⟩) Q E s := by
  obtain ⟨h, g, d, t, os⟩ := s
  have l1 := exc_ty (M := model prog w) p
  have l2 := PySem.W.looks_findIn (M := model prog w) X c.cl
  have f5 := F.typeOf_object_class
  have f6 := F.slot_gs_get.lookup
  have f7 := F.slot_gs_set.lookup
  unfold Builtin.«object.__getattribute__»
  repeat (first | with_reducible refine l1.at ?_ | with_reducible refine l2.at ?_ | wp_step)
  refine exc_gcls X p c ?_
  repeat (first | assumption | wp_step)
theorem exc_class {s : Shared} {Q : Option Value → Shared → Prop} (X : K.In s.heap) (p : ExcAt x C s.heap) (c : ExcC K C) (hq : Q (some (.ref C)) { s with toks := s.toks + 1 }) :
    wpAny (model prog w) A (getAttr? (.ref x) "__class__") Q E s := by
  obtain ⟨h, g, d, t, os⟩ := s
  have l1 := exc_ty (M := model prog w) p
  have l2 := PySem.W.looks_findIn (M := model prog w) X c.ga
  have l3 := PySem.W.looks_findIn (M := model prog w) X c.gn
  have b1 := PySem.F.attr_ValueError.ga.bind (.ref x)
  unfold getAttr? getAttrBy?
  unfold getAttrBy
  refine wpAny_bind (wpAny_mkText (wpAny_bind (wpAny_attempt (wpAny_holding (wpAny_bind (l1.at (wpAny_bind (l2.at ?_))))))))
  show wpAny _ _ (getAttrByItsOwn _ _ _ _ _ _) _ _ _
  unfold getAttrByItsOwn
  refine wpAny_bind (l3.at ?_)
  refine wpAny_bind (wpAny_attempt (wpAny_holding ?_))
  show wpAny _ _ (boundAndCalled _ _ _) _ _ _
  unfold boundAndCalled
  rw [b1]
  refine wpAny_bind (wpAny_pure ?_)
  refine wpAny_call (codeAny_call_builtin PySem.F.attr_ValueError.ga.plain F.entry_bexc_ga ?_)
  refine exc_chk X p c ?_
  refine exc_get (s := ⟨h, g, d, t + 1, os⟩) X p c ?_
  exact wpAny_pure (wpAny_pure hq)
theorem exc_kit (c : ExcC K C) : PySem.W.KitX K (.ref x) (.ref C) (ExcAt x C) where
  ty := fun M h _ p => exc_ty p
  it := fun M h X p => by
    obtain ⟨dd, cd, sl, lk⟩ := exc_lk c.nw
    intro A' Q' E' s' k q
    unfold isType loadHead
    exact wpAny_bind (wpAny_loadPart (k _ _ (X _ _ lk)) (wpAny_pure q))
  ne := fun h tp d' its n sl X e => by
    obtain ⟨dd, cd, sl', lk⟩ := exc_lk c.nw
    refine Bool.eq_false_iff.mpr fun q => ?_
    have e2 : C = tp := Value.ref.inj (beq_iff_eq.mp q)
    subst e2
    have z := congrArg Obj.cls (Option.some.inj ((X _ _ lk).symm.trans e))
    exact absurd (Value.type.inj z) (by decide)
  ca := fun X p q => exc_class X p c q
end
section
variable {X : Cx}
def dIsiX (K : PySem.W.Frag) : List V → Hp → VK → Prop := fun xs H Q => match xs with
  | [.ref p, .ref D] => ∃ C b, H p = some (.ext (ExcAt p C)) ∧ ExcC K C ∧ PySem.W.kitOne K (.ref C) (.ref D) = some b ∧ Q (.bl b) H
  | [.ref p, .ty T] => ∃ C b, H p = some (.ext (ExcAt p C)) ∧ ExcC K C ∧ PySem.W.kitOne K (.ref C) (.type T) = some b ∧ Q (.bl b) H
  | _ => False
theorem c_isiX : CallR X (.builtin "isinstance") (dIsiX X.K) := by
  intro pins s σ H xs us Q I r h
  match xs, h with
  | [.ref p, .ref D], ⟨C, b, e, c, k, q⟩ =>
    obtain ⟨u, v, rfl, r1, r2⟩ := vals2 r
    cases (show u = Value.ref p from r1)
    cases (show v = Value.ref D from r2)
    have o : ObjOk X.prog X.w H s.heap p (.ext (ExcAt p C)) := I.hok p _ e
    exact PySem.W.kia_one (exc_kit c) I.kIn o.1 k (fun z => nomatch z) fun tk => ⟨.bl b, H, I.tok _, rfl, q⟩
  | [.ref p, .ty T], ⟨C, b, e, c, k, q⟩ =>
    obtain ⟨u, v, rfl, r1, r2⟩ := vals2 r
    cases (show u = Value.ref p from r1)
    cases (show v = Value.type T from r2)
    have o : ObjOk X.prog X.w H s.heap p (.ext (ExcAt p C)) := I.hok p _ e
    exact PySem.W.kia_one (exc_kit c) I.kIn o.1 k (fun z => nomatch z) fun tk => ⟨.bl b, H, I.tok _, rfl, q⟩
def dIsiT (K : PySem.W.Frag) : List V → Hp → VK → Prop := fun xs H Q => match xs with
  | [.ref p, .ref t] => ∃ (C : Addr) (b : Bool) (ds : List Addr), H p = some (.ext (ExcAt p C)) ∧ ExcC K C ∧ H t = some (.tup (ds.map V.ref)) ∧ PySem.W.kitAny K (.ref C) (ds.map Value.ref) = some b ∧ Q (.bl b) H
  | _ => False
end
section
variable {X : Cx} {pins : List (Addr × Obj)} {σ : L2.St} {H : Hp} {s : Shared}
theorem name_goes {M : Model} {A : Around} {E : Value → Shared → Prop} {Q : Unit → Shared → Prop} {n : Nat} {x : Str} {pos : Pos} (I : Inv X pins σ H s) (nd : X.N.Nodup) (hn : X.N[n]? = some x) (hl : X.env.scope.names.lookup x = some .local)
    (k : ∀ s', Inv X pins (σ.set n none) H s' → Q () s') : wpAny M A (do bindName X.env x .none; unbindBehindTheSuite X.env x pos) Q E s := by
  refine wpAny_bind (wpAny_bindName (store_ok I nd hn (.inl hl) (v := .non) (u := .none) rfl (fun s1 I1 => ?_) (.inr hl)))
  obtain ⟨m, hns, hloc⟩ := id I1.loc
  have hlen : n < σ.length := by rw [I.len]; exact (List.getElem?_eq_some_iff.mp hn).1
  have hm : m x = some .none := by
    obtain ⟨u, ru, lk⟩ := hloc n x .non hn (by rw [List.getElem?_set_self hlen]) (.inl hl)
    cases (show u = Value.none from ru)
    rcases lk with ⟨_, e⟩ | ⟨z, _⟩
    · exact e
    · have z' : X.env.scope.names.lookup x = some .cell ∨ X.env.scope.names.lookup x = some .free := z
      rw [hl] at z'
      rcases z' with z' | z' <;> cases z'
  have hp : (X.env.scope.kind == .class || (X.env.scope.kind == .module && X.env.locals != X.env.globals)) = false := by rw [I.ok.kind]; rfl
  have hl' : X.env.kindOf x = some .local := hl
  unfold unbindBehindTheSuite
  refine wpAny_onRaise ?_
  unfold unbindName
  refine wpAny_bind (wpAny_point (wpAny_bind ?_))
  unfold deleteName
  simp only [hl', hp]
  rw [if_neg (by decide)]
  refine wpAny_bind (wpAny_nsDel_keeps hns fun h2 v hn2 sb => ?_)
  rw [hm]
  simp only [if_true, Option.isSome_some, Bool.not_true, Bool.false_eq_true, if_false]
  refine wpAny_pure (wpAny_point (k _ ?_))
  have ne : ∀ b o, X.s₀.heap.get? b = some o → b ≠ X.env.locals := fun b o e => Nat.ne_of_lt (Nat.lt_of_lt_of_le (Heap.lt_size e) I.ok.above)
  refine ⟨I1.ok, I1.os, I1.bare, ⟨fun b o e n' hb hx => ?_, fun b o e n' hb hx => ?_, I1.base.free, fun b o e hx => ?_, I1.base.tups, I1.base.frzs, I1.base.tbls⟩, ⟨_, hn2, fun j y v' e1 e2 e3 => ?_⟩, fun y c e => ?_, I1.free, I1.freeC, fun p hp => ?_, fun b u e => ?_, ?_⟩
  · exact (sb.2 b (ne b o e)).trans (I1.base.keep b o e n' hb hx)
  · obtain ⟨sl, q⟩ := I1.base.slot b o e n' hb hx
    exact ⟨sl, (sb.2 b (ne b o e)).trans q⟩
  · obtain ⟨o', q⟩ := I1.base.there b o e hx
    exact ⟨o', (sb.2 b (ne b o e)).trans q⟩
  · have hj : j ≠ n := by
      rintro rfl
      rw [List.getElem?_set_self hlen] at e2
      cases e2
    rw [List.getElem?_set_ne (Ne.symm hj)] at e2
    obtain ⟨u', r', q⟩ := hloc j y v' e1 (by rw [List.getElem?_set_ne (Ne.symm hj)]; exact e2) e3
    refine ⟨u', r', ?_⟩
    rcases q with ⟨kk, e⟩ | ⟨kk, c, e, z⟩
    · refine .inl ⟨kk, ?_⟩
      have hy : y ≠ x := fun z => hj (nodup_ix nd e1 (z ▸ hn))
      show (if y = x then v else m y) = some u'
      rw [if_neg hy]
      exact e
    · exact .inr ⟨kk, c, e, z.sameBut sb (I1.cne y c e)⟩
  · obtain ⟨w', z⟩ := I1.cell y c e
    exact ⟨w', z.sameBut sb (I1.cne y c e)⟩
  · obtain ⟨q, q2, q3, q4⟩ := I1.pin p hp
    exact ⟨(sb.2 p.1 q3).trans q, q2, q3, q4⟩
  · refine (I1.hok b u e).stay (fun c v' hc q => (sb.2 c ?_).trans q) (fun _ q => q) fun _ _ q => q
    rintro rfl
    rcases hc with z | z
    · subst z
      rw [I1.free] at e
      cases e
    · rw [I1.free] at z
      cases z
  · have z := I1.len
    simp only [List.length_set] at z ⊢
    exact z
end
abbrev cxM (X : Cx) (v : Value) : Cx := { X with A := X.A.mark (some v), calm := false, xe := fun _ _ => False }
section
variable {X : Cx} {pins : List (Addr × Obj)} {σ : L2.St} {H : Hp} {s : Shared}
theorem inv_mark (I : Inv X pins σ H s) (v : Value) : Inv (cxM X v) pins σ H s :=
  ⟨⟨I.ok.mod, I.ok.kind, I.ok.glob, I.ok.blt, I.ok.above, I.ok.inj, I.ok.has, I.ok.cab, fun z => (nomatch z), I.ok.frames, I.ok.stk, I.ok.exf, I.ok.bs, I.ok.bsz, I.ok.noex, I.ok.exfs, I.ok.funs, I.ok.frf⟩, I.os, I.bare, I.base, I.loc, I.cell, I.free, I.freeC, I.pin, I.hok, I.len⟩
theorem inv_unmark {v : Value} (ok : X.Ok) (I : Inv (cxM X v) pins σ H s) : Inv X pins σ H s := ⟨ok, I.os, I.bare, I.base, I.loc, I.cell, I.free, I.freeC, I.pin, I.hok, I.len⟩
end
structure Cat (K : PySem.W.Frag) (D : Addr) : Prop where
  lk : ∃ dd cd sl, K.lookup D = some ⟨.type "type", dd, .cls cd, sl⟩
  mb : PySem.W.mroIn K D (.type "BaseException") = some true
theorem ExcC.cat {K : PySem.W.Frag} {C : Addr} (c : ExcC K C) : Cat K C := ⟨exc_lk c.nw, c.mb⟩
theorem exc_match {M : Model} {A : Around} {E : Value → Shared → Prop} {K : PySem.W.Frag} {a C D : Addr} {s : Shared} {Q : Bool → Shared → Prop} (X : K.In s.heap) (p : ∃ o, s.heap.get? a = some o ∧ o.cls = .ref C) (c : Cat K D)
    (hm : PySem.W.mroIn K C (.ref D) = some true) (hq : Q true s) : wpAny M A (excMatches (.ref a) (.ref D)) Q E s := by
  obtain ⟨h, g, d, t, os⟩ := s
  obtain ⟨o, e, ec⟩ := p
  obtain ⟨dd, cd, sl, lk⟩ := c.lk
  have eD := X _ _ lk
  have f := tc_notTuple
  have l1 := PySem.W.looks_mroIn (M := M) X c.mb
  have l2 := PySem.W.looks_mroIn (M := M) X hm
  unfold excMatches
  repeat (first | with_reducible refine l1.at ?_ | with_reducible refine l2.at ?_ | (with_reducible refine wpAny_loadPart_at e ?_; rw [ec]) | with_reducible refine wpAny_loadPart_at eD ?_ | wp_step)
  exact hq
def tTry (K : PySem.W.Frag) (ta : TA) (sp : Sp) (D' : Addr) (n : Nat) (tu : TS) : TS := fun D σ H => ta σ H fun vs H1 => sp vs H1 (fun _ H2 => D.nx σ H2) fun cls _ H2 => ∃ C, cls = .ref C ∧ ExcC K C ∧ PySem.W.mroIn K C (.ref D') = some true ∧
  ∀ a H3, Same H2 H3 → H3 a = some (.ext (ExcAt a C)) → tu { nx := fun σ' H' => D.nx (σ'.set n none) H', rt := D.rt, bk := fun σ' H' => D.bk (σ'.set n none) H', ct := fun σ' H' => D.ct (σ'.set n none) H' } (σ.set n (some (.ref a))) H3
section
variable {X : Cx} {pins : List (Addr × Obj)} {σ : L2.St} {H H' : Hp} {s s' : Shared}
theorem handle_ok {E : Value → Shared → Prop} {a C D' : Addr} {B : Heap} {a0 : Value} {y nm : Str} {yp hpos : Pos} {b₀ : Stmt} {suite : List Stmt} {n : Nat} {tu : TS} {D : Ends} (dx : DefCx X) (I : Inv X pins σ H s) (F : Fly X.prog X.w X.stack H s H' a (.ref C) B a0 s')
    (hy : Gl X y) (hD : X.mg y = some (.ref D')) (cD : Cat X.K D') (hm : PySem.W.mroIn X.K C (.ref D') = some true) (nd : X.N.Nodup) (hn : X.N[n]? = some nm) (hl : X.env.scope.names.lookup nm = some .local) (hu : ∀ v, PSs (cxM X v) (b₀ :: suite) tu)
    (hdb : (y == ("__debug__" : Str)) = false)
    (q : ∀ H3, Same H' H3 → H3 a = some (.ext (ExcAt a C)) → tu { nx := fun σ' H' => D.nx (σ'.set n none) H', rt := D.rt, bk := fun σ' H' => D.bk (σ'.set n none) H', ct := fun σ' H' => D.ct (σ'.set n none) H' } (σ.set n (some (.ref a))) H3) :
    wpAny (model X.prog X.w) X.A (noteFrame (.ref a) X.env) (fun _ s2 => wpAny (model X.prog X.w) X.A (setFlight (.ref a) none) (fun _ s3 =>
      wpAny (model X.prog X.w) X.A (handleBy (.ref a) X.env [.ExceptHandler (some (.Name y yp)) (some nm) (b₀ :: suite) hpos]) (SP X pins D) E s3) E s2) E s' := by
  have hfr : X.A.frames = some (X.env :: X.outer) := by rw [I.ok.frames, dx.stk]
  have hfl := F.fly
  rw [dx.stk] at hfl
  refine wpAny_looks_onW hfr dx.fr hfl fun h4 held u4 => ?_
  refine wpAny_landsW held fun h5 f5 u5 => ?_
  have I5 : Inv X pins σ H' { s' with heap := h5 } := I.call' (s' := { s' with heap := h5 }) (ch := []) F.os (F.un5 f5.1 (u4.trans u5)) (F.hok5 f5.1) F.bare fun b hb => absurd hb (by simp)
  refine wpAny_handleBy_cons (codeAny_handlers_test (ld_glob (inv_mark I5 (.ref a)) hy hD ?_ hdb)) (by intro z; cases z)
  refine exc_match I5.kIn f5.there cD hm ?_
  refine codeAny_handlers_suite_as ?_
  refine lands_againW f5 fun h6 f6 u6 => ?_
  obtain ⟨oe, ws, oe1, oe2, oe3, _⟩ := f6.first
  have up : ∀ b, b ≠ a → upd H' a (.ext (ExcAt a C)) b = H' b := fun b hb => upd_ne hb
  have sm : Same H' (upd H' a (.ext (ExcAt a C))) := fun b o e => by
    rw [up b (ne_of_none e F.free)]
    exact e
  have un0 := F.un5 f6.1 ((u4.trans u5).trans u6)
  have un6 : Un (frs X.stack) [] H (upd H' a (.ext (ExcAt a C))) s.heap h6 :=
    ⟨un0.keep, un0.slot, fun b o e n' hx => by
      have hb : b ≠ a := by
        rintro rfl
        rw [F.fresh] at e
        cases e
      rw [up b hb]
      exact un0.free b o e n' hx, un0.there, fun b xs e => sm b _ (un0.tups b xs e), fun b o u e => sm b _ (un0.frzs b o u e), fun b ps e => by
      obtain ⟨more, e1⟩ := un0.tbls b ps e
      exact ⟨more, sm b _ e1⟩⟩
  have ok0 := F.hok5 f6.1
  have ok6 : HOk X.prog X.w (upd H' a (.ext (ExcAt a C))) h6 := fun b u e => by
    by_cases hb : b = a
    · subst hb
      rw [upd_same] at e
      cases e
      refine ⟨⟨oe, ws, oe1, oe2, oe3⟩, ⟨oe, oe1⟩, fun h1 h2 ⟨o, vs, z1, z2, z3⟩ k => ⟨o, vs, k o z1, z2, z3⟩⟩
    · rw [up b hb] at e
      exact (ok0 b u e).stay (fun _ _ _ q => q) (fun c z => sm c _ z) fun c xs z => sm c _ z
  have I6 : Inv X pins σ (upd H' a (.ext (ExcAt a C))) { s' with heap := h6 } := I.call' (s' := { s' with heap := h6 }) (ch := []) F.os un6 ok6 F.bare fun b hb => absurd hb (by simp)
  refine store_ok (X := cxM X (.ref a)) (inv_mark I6 (.ref a)) nd hn (.inl hl) (v := .ref a) rfl (fun s7 I7 => ?_) (.inr hl)
  refine wpAny_mono (hu (.ref a) pins s7 _ _ _ I7 (q _ sm upd_same)) (fun fl s8 q8 => ?_) fun _ _ z => z.elim
  cases fl with
  | next =>
    obtain ⟨σ8, H8, I8, q8⟩ := q8
    exact name_goes (inv_unmark I.ok I8) nd hn hl fun s9 I9 => ⟨_, H8, I9, q8⟩
  | brk =>
    obtain ⟨σ8, H8, I8, q8⟩ := q8
    exact name_goes (inv_unmark I.ok I8) nd hn hl fun s9 I9 => ⟨_, H8, I9, q8⟩
  | cont =>
    obtain ⟨σ8, H8, I8, q8⟩ := q8
    exact name_goes (inv_unmark I.ok I8) nd hn hl fun s9 I9 => ⟨_, H8, I9, q8⟩
  | ret u =>
    obtain ⟨v, σ8, H8, I8, r8, q8⟩ := q8
    exact name_goes (inv_unmark I.ok I8) nd hn hl fun s9 I9 => ⟨v, _, H8, I9, r8, q8⟩
end
end Lw
end
section
set_option Elab.async false
set_option linter.all false
set_option maxRecDepth 100000
set_option maxHeartbeats 4000000
namespace Lw
open PySem PySem.Spec PyProof.Rows L2
section
variable {X : Cx} {a b c : Expr} {ta tb tc : TE} {pos : Pos} {tg : Expr}
def Cst (mg : Str → Option Value) (x : Str) (v : V) : Prop := ∃ u, mg x = some u ∧ RelV v u
theorem g_cst {x : Str} {v : V} (k : Cst X.mg x v) (hg : Gl X x) (hd : (x == ("__debug__" : Str)) = false := by decide) : PE X (.Name x pos) (tC v) := by
  obtain ⟨u, h1, h2⟩ := k
  exact pe_glob hg h1 h2 hd
def TupK (K : PySem.W.Frag) (a : Addr) (xs : List V) : Prop := ∀ H, SqT K H a xs
def dIxTS (K : PySem.W.Frag) : R2 := fun x y H Q => match x, y with
  | .ref p, .int i => ∃ xs v, SqT K H p xs ∧ atI xs i = some v ∧ Q v H
  | _, _ => False
def dChain (r r' : R2) (ta tb tc : TE) : TE := fun σ H Q => ta σ H fun x H1 => tb σ H1 fun y H2 => r x y H2 fun z H3 => match z with
  | .bl k => Br k (tc σ H3 fun w' H4 => r' y w' H4 Q) (Q (.bl false) H3)
  | _ => False
theorem dChain_eq (r r' : R2) (ta tb tc : TE) : dChain r r' ta tb tc = tChain r r' ta tb tc := by
  funext σ H Q
  unfold dChain tChain
  congr 1
  funext x H1
  congr 1
  funext y H2
  congr 1
  funext z H3
  apply propext
  cases z <;> simp [br_eq]
theorem t_chain {op op' : CmpOp} {r r' : R2} (ho : OpR X (compareOp op) r) (ho' : OpR X (compareOp op') r') (ha : PE X a ta) (hb : PE X b tb) (hc : PE X c tc)
    (hm : lastMarks [op, op'] [b, c] = false := by with_unfolding_all rfl) : PT X (.Compare a [op, op'] [b, c] pos) (dTest (dChain r r' ta tb tc)) := by
  rw [dTest_eq, dChain_eq]
  exact pt_chain ho ho' ha hb hc hm
def dIn1 : R2 := fun x y H Q => match x, y with
  | .str i, .str j => ∃ c, i = ⟨#[c]⟩ ∧ Q (.bl (decide (c ∈ co j))) H
  | _, _ => False
theorem o_in1 : OpR X (compareOp .In) dIn1 := by
  intro pins s σ H x y v u Q I rx ry q
  cases x <;> cases y <;> first
    | exact False.elim q
    | (obtain ⟨k, rfl, q⟩ := q
       exact op_in_str _ _ _ _ _ _ _ _ _ I rx ry ⟨_, _, rfl, rfl, by rw [StrLaws.found_one]; exact q⟩)
def Its (x : Str) : It := ⟨fun i _ => i < x.length, fun i H v H' => H' = H ∧ ∃ c, (co x)[i]? = some c ∧ v = .str ⟨#[c]⟩, fun i _ => x.length ≤ i⟩
theorem turn_strA {P : Program} {w : World} {K : PySem.W.Frag} (x : Str) (t : Tok) (it : Addr) : Turn P w K tg (Its x) [it] it (fun i h => h.IsStrIter it "str_ascii_iterator" x t i) where
  mem := by simp
  obj := fun i h st b hb => by
    have e : b = it := by simpa using hb
    subst e
    obtain ⟨o, e, _, d⟩ := st
    exact ⟨o, e, fun v z => by rw [d] at z; cases z⟩
  keep := fun i h h' st k => by
    obtain ⟨o, e, r⟩ := st
    exact ⟨o, k it (by simp) o e, r⟩
  item := by
    intro X hP hw hK hc i pins s σ H E I hf st hg
    subst hP hw hK
    have hg : i < x.cps.size := hg
    obtain ⟨f0, f1, f2, f3, f4, f5⟩ := hf it (by simp)
    refine wpAny_pyNext_ascii_item st (c := x.cps[i]) (by simp [hg]) fun h' st' sb => ?_
    have I1 : Inv X pins σ H { s with heap := h', toks := s.toks + 1 } := I.turned (fun b o hb e => (sb.2 b hb).trans e) f0 f1 f3 f4 f5
    obtain ⟨o, e, c, d⟩ := id st'
    exact ⟨_, rfl, go_of (s := { s with heap := h', toks := s.toks + 1 }) e c d (by decide) ⟨.str _, H, I1, ⟨_, rfl⟩, ⟨rfl, _, by simp [co, hg], rfl⟩, st', fun b hb => (hf b hb).1⟩⟩
  done := by
    intro X hP hw hK hc i pins s σ H E I hf st hg
    subst hP hw hK
    have hg : x.cps.size ≤ i := hg
    obtain ⟨f0, f1, f2, f3, f4, f5⟩ := hf it (by simp)
    exact wpAny_pyNext_ascii_end (I.ok.hd hc) st (by simp [hg]) fun h' eb => ⟨rfl, I.turned (t' := s.toks) (fun b o hb e => eb b o hb e) f0 f1 f3 f4 f5⟩
  self := fun _ _ _ _ _ st h => wpAny_pyIter_striter_ascii st h
theorem turn_strW {P : Program} {w : World} {K : PySem.W.Frag} (x : Str) (t : Tok) (it : Addr) : Turn P w K tg (Its x) [it] it (fun i h => h.IsStrIter it "str_iterator" x t i) where
  mem := by simp
  obj := fun i h st b hb => by
    have e : b = it := by simpa using hb
    subst e
    obtain ⟨o, e, _, d⟩ := st
    exact ⟨o, e, fun v z => by rw [d] at z; cases z⟩
  keep := fun i h h' st k => by
    obtain ⟨o, e, r⟩ := st
    exact ⟨o, k it (by simp) o e, r⟩
  item := by
    intro X hP hw hK hc i pins s σ H E I hf st hg
    subst hP hw hK
    have hg : i < x.cps.size := hg
    obtain ⟨f0, f1, f2, f3, f4, f5⟩ := hf it (by simp)
    refine wpAny_pyNext_wide_item st (c := x.cps[i]) (by simp [hg]) fun h' st' sb => ?_
    have I1 : Inv X pins σ H { s with heap := h', toks := s.toks + 1 } := I.turned (fun b o hb e => (sb.2 b hb).trans e) f0 f1 f3 f4 f5
    obtain ⟨o, e, c, d⟩ := id st'
    exact ⟨_, rfl, go_of (s := { s with heap := h', toks := s.toks + 1 }) e c d (by decide) ⟨.str _, H, I1, ⟨_, rfl⟩, ⟨rfl, _, by simp [co, hg], rfl⟩, st', fun b hb => (hf b hb).1⟩⟩
  done := by
    intro X hP hw hK hc i pins s σ H E I hf st hg
    subst hP hw hK
    have hg : x.cps.size ≤ i := hg
    obtain ⟨f0, f1, f2, f3, f4, f5⟩ := hf it (by simp)
    exact wpAny_pyNext_wide_end (I.ok.hd hc) st (by simp [hg]) fun h' eb => ⟨rfl, I.turned (t' := s.toks) (fun b o hb e => eb b o hb e) f0 f1 f3 f4 f5⟩
  self := fun _ _ _ _ _ st h => wpAny_pyIter_striter_wide st h
def iStr (tl : TE) : TI := fun σ H R => tl σ H fun x H1 => match x with
  | .str z => R (Its z) H1
  | _ => False
theorem pi_str {l : Expr} {tl : TE} (hl : PE X l tl) : PI X tg l (iStr tl) := by
  intro pins s σ H R I h
  refine thn (hl pins s σ H _ I h) fun v s1 ⟨x, H1, I1, r1, q1⟩ => ?_
  cases x <;> first
    | exact False.elim q1
    | (rename_i z
       obtain ⟨t, rfl⟩ := r1
       have fp : ∀ (o : Obj), ∀ b ∈ [s1.heap.objs.size], FpOk X pins H1 b := fun o b hb => by
         have e : b = s1.heap.objs.size := by simpa using hb
         subst e
         exact I1.fpOk (Nat.le_refl _) (I1.hok.fresh (Nat.le_refl _))
       cases ha : z.cps.all (· < 128) with
       | true =>
         refine wpAny_pyIter_ascii ha ⟨s1.heap.objs.size, [s1.heap.objs.size], _, _, H1, rfl, I1.kept (t' := s1.toks) fun b o e => Heap.get?_push_of_some _ e, turn_strA z t _, ⟨_, Heap.get?_push_size _ rfl, rfl, rfl⟩, fp default, q1⟩
       | false =>
         refine wpAny_pyIter_wide ha ⟨s1.heap.objs.size, [s1.heap.objs.size], _, _, H1, rfl, I1.kept (t' := s1.toks) fun b o e => Heap.get?_push_of_some _ e, turn_strW z t _, ⟨_, Heap.get?_push_size _ rfl, rfl, rfl⟩, fp default, q1⟩)
theorem comp_str {x : Str} {g : TG} {te : TE} {k : Nat} {js : List Nat} {σ : L2.St} {H1 : Hp} {Q : VK} (f : Nat → V) (hz : x.length ≤ 1000)
    (hs : ∀ c H2, c ∈ co x → Same H1 H2 → ∀ P : VK, P (f c) H2 → g (.str ⟨#[c]⟩) (List.replicate k none ++ capσ js σ) H2 fun σ2 H3 => σ2.drop k = capσ js σ ∧ te σ2 H3 P)
    (hq : ∀ D H', Same H1 H' → H' D = some (.lst ((co x).map f)) → Q (.ref D) H') :
    CGoal (Its x) g te k js σ H1 Q := by
  unfold CGoal
  intro D hD
  have hl := co_len x
  refine ⟨fun i m H => m = x.length - i ∧ i ≤ x.length ∧ H = upd H1 D (.lst (((co x).take i).map f)), ⟨x.length, by simp, Nat.zero_le _, rfl⟩, ?_⟩
  rintro i m H ⟨rfl, hi, rfl⟩
  by_cases hlt : i < x.length
  · refine .inr ⟨hlt, fun v H' y => ?_⟩
    obtain ⟨e1, c, hc, rfl⟩ := y
    subst e1
    refine hs c _ (List.mem_of_getElem? hc) (same_upd hD) _ ⟨_, upd_same, ?_, x.length - (i + 1), by omega, rfl, hlt, ?_⟩
    · rw [List.length_map, List.length_take]
      exact Nat.lt_of_le_of_lt (Nat.min_le_left _ _) (Nat.lt_of_lt_of_le hlt (Nat.le_trans hz (by decide)))
    · rw [upd_upd, List.take_add_one, hc, List.map_append]
      rfl
  · have e : i = x.length := by omega
    subst e
    refine .inl ⟨Nat.le_refl _, hq D _ (same_upd hD) ?_⟩
    rw [upd_same, List.take_of_length_le (by omega)]
def dStrI : List V → Hp → VK → Prop := fun xs H Q => match xs with
  | [.int i] => i.natAbs.log2 < 1920 ∧ Q (.str (toString i)) H
  | _ => False
def dAll (K : PySem.W.Frag) : List V → Hp → VK → Prop := fun xs H Q => match xs with
  | [.ref p] => ∃ bs : List Bool, SqL K H p (bs.map V.bl) ∧ Q (.bl (bs.all id)) H
  | _ => False
theorem vals_bls : ∀ {bs : List Bool} {us : List Value}, Vals (bs.map V.bl) us → us = bs.map Value.bool
  | [], _, r => by cases r; rfl
  | d :: ds, _, r => by
    cases r with
    | cons r1 r2 => rw [show _ = Value.bool d from r1, vals_bls r2]; rfl
theorem range_all : ∀ bs : List Bool, ((List.range bs.length).all fun i => bs.getD i true) = bs.all id := by
  intro bs
  rw [Bool.eq_iff_iff, List.all_eq_true, List.all_eq_true]
  constructor
  · intro h b hb
    obtain ⟨i, hi, rfl⟩ := List.getElem_of_mem hb
    have := h i (List.mem_range.mpr hi)
    rw [List.getD_eq_getElem?_getD, List.getElem?_eq_getElem hi] at this
    exact this
  · intro h i hi
    have hi := List.mem_range.mp hi
    rw [List.getD_eq_getElem?_getD, List.getElem?_eq_getElem hi]
    exact h _ (List.getElem_mem hi)
theorem c_all (hc : X.calm = true) : CallR X (.builtin "all") (dAll X.K) := by
  intro pins s σ H xs us Q I r h
  match xs, h with
  | [.ref p], ⟨bs, h1, q⟩ =>
    obtain ⟨u, rfl, r1⟩ := vals1 r
    cases (show u = Value.ref p from r1)
    obtain ⟨its, rv, pl, _⟩ := I.list h1
    have e := vals_bls rv
    subst e
    have hh := I.ok.hd hc
    have il := pl.isList
    obtain ⟨ob, eb, rb⟩ := id il
    have ne : p ≠ s.heap.objs.size := Nat.ne_of_lt (Heap.lt_size eb)
    refine call_all_walk (wpAny_pyIter_list il ?_)
    refine ⟨s.heap.objs.size, _, _, _, _, _, fun i => bs.getD i true, rfl, Walks.list (A := X.A.in1) hh s.heap.objs.size p ne (bs.map Value.bool).toArray, ⟨⟨_, Heap.get?_push_size _ rfl, rfl, rfl⟩, ⟨ob, Heap.get?_push_of_some _ eb, rb⟩⟩, fun i v s2 Q2 E2 hP hQ => ?_, fun h' tk k => ?_⟩
    · have hP : (bs.map Value.bool).toArray[i]? = some v := hP
      rw [List.getElem?_toArray, List.getElem?_map] at hP
      cases e2 : bs[i]? with
      | none =>
        rw [e2] at hP
        cases hP
      | some d =>
        rw [e2] at hP
        cases hP
        refine wpAny_truthy_bool ?_
        have : bs.getD i true = d := by rw [List.getD_eq_getElem?_getD, e2]; rfl
        rw [← this]
        exact hQ
    · refine ⟨.bl (bs.all id), H, I.kept (t' := tk) fun b o e => k b o ?_ (Heap.get?_push_of_some _ e), ?_, q⟩
      · intro z
        have z : b = s.heap.objs.size := by simpa using z
        exact Nat.lt_irrefl _ (z ▸ Heap.lt_size e)
      · show Value.bool _ = Value.bool _
        rw [List.size_toArray, List.length_map, range_all]
end
end Lw
end
section
set_option Elab.async false
set_option linter.all false
set_option maxRecDepth 100000
set_option maxHeartbeats 4000000
set_option autoImplicit false
namespace Lw
open PySem PySem.Spec PyProof.Rows L2
section
variable {X : Cx} {pos : Pos}
def upS (x : Str) : Str := ⟨x.cps.map up1⟩
def dUpper : V → List V → Hp → VK → Prop := fun x xs H Q => match x, xs with
  | .str z, [] => z.length ≤ 1000 ∧ (∀ c ∈ co z, c < 128) ∧ Q (.str (upS z)) H
  | _, _ => False
def dListN (K : PySem.W.Frag) : List V → Hp → VK → Prop := fun xs H Q => match xs with
  | [.ref p] => ∃ ys, (SqL K H p ys ∨ SqT K H p ys) ∧ ∀ l, H l = none → Q (.ref l) (upd H l (.lst ys))
  | _ => False
end
end Lw
end
section
set_option Elab.async false
set_option linter.all false
set_option maxRecDepth 100000
set_option maxHeartbeats 4000000
set_option autoImplicit false
namespace Lw
open PySem PySem.Spec PyProof.Rows L2
section
variable {X : Cx} {pos : Pos}
structure TupD (K : PySem.W.Frag) (a : Addr) (xs : List V) : Prop where
  sq : ∀ H, SqT K H a xs
  ty : ∃ o, K.lookup a = some o ∧ o.cls = .type "tuple" ∧ o.dict = none
def dNotInS (K : PySem.W.Frag) : R2 := fun x y H Q => match y with
  | .ref p => ∃ xs, (SqL K H p xs ∨ SqT K H p xs) ∧ flatV x = true ∧ xs.all flatV = true ∧ Q (.bl (!inV x xs)) H
  | _ => False
theorem o_notin : OpR X (compareOp .NotIn) (dNotInS X.K) := by
  intro pins s σ H x y v u Q I rx ry q
  cases y <;> first
    | exact False.elim q
    | (obtain ⟨xs, h1, h2, h3, q⟩ := q
       exact op_notIn_seq _ _ _ _ _ _ _ _ _ I rx ry ⟨_, xs, rfl, h1, h2, h3, q⟩)
def dIntS : List V → Hp → VK → Prop := fun xs H Q => match xs with
  | [.str x] => ∃ n, PySem.intText? x = some n ∧ x.length ≤ 640 ∧ Q (.int n) H
  | _ => False
def dEnds : V → List V → Hp → VK → Prop := fun x xs H Q => match x, xs with
  | .str x, [.str y] => Q (.bl (Txt.endswith x y)) H
  | _, _ => False
def dSplit : V → List V → Hp → VK → Prop := fun x xs H Q => match x, xs with
  | .str x, [.str y] => (y.length == 0) = false ∧ x.length ≤ 1000 ∧ ∀ l H', Same H H' → H' l = some (.lst ((Txt.split x y).map V.str)) → Q (.ref l) H'
  | _, _ => False
def PJ (X : Cx) (es : List Expr) (t : Str → L2.St → Hp → VK → Prop) : Prop := ∀ (pins : List (Addr × Obj)) (s : Shared) (σ : L2.St) (H : Hp) (acc : Str) (Q : VK), Inv X pins σ H s → t acc σ H Q → wpAny (model X.prog X.w) X.A (joinParts acc (evalEach es X.env)) (EP X pins σ Q) X.xe s
def tJ0 : Str → L2.St → Hp → VK → Prop := fun acc _ H Q => acc.length ≤ sizeLine ∧ Q (.str acc) H
theorem pj_nil : PJ X [] tJ0 := fun pins s σ H acc Q I h => PyProof.Rows.joinParts_nil ⟨.str acc, H, I.tok _, ⟨_, rfl⟩, h.2⟩ h.1
def tJS (y : Str) (t : Str → L2.St → Hp → VK → Prop) : Str → L2.St → Hp → VK → Prop := fun acc σ H Q => (acc ++ y).length ≤ sizeLine ∧ t (acc ++ y) σ H Q
theorem pj_str {es : List Expr} {t : Str → L2.St → Hp → VK → Prop} {y : Str} {j : Nat} (hz : y.length ≤ sizeLine := by decide +kernel) (h : PJ X es t) : PJ X (.Constant (.str y) j pos :: es) (tJS y t) := by
  intro pins s σ H acc Q I q
  refine PyProof.Rows.joinParts_cons (thn (pe_str (x := y) (j := j) (pos := pos) pins s σ H (fun v H' => v = .str y ∧ H' = H) I ⟨rfl, rfl⟩) fun v s1 ⟨x, H1, I1, r1, e1, e2⟩ => ?_)
  subst e1 e2
  obtain ⟨tk, rfl⟩ := r1
  exact ⟨q.1, h pins s1 σ H1 _ Q I1 q.2⟩
def tJV (te : TE) (t : Str → L2.St → Hp → VK → Prop) : Str → L2.St → Hp → VK → Prop := fun acc σ H Q => te σ H fun x H1 => match x with
  | .str y => y.length ≤ sizeLine ∧ (acc ++ y).length ≤ sizeLine ∧ t (acc ++ y) σ H1 Q
  | .int i => i.natAbs.log2 < 1920 ∧ (acc ++ (toString i : Str)).length ≤ sizeLine ∧ t (acc ++ (toString i : Str)) σ H1 Q
  | _ => False
theorem pj_val {e : Expr} {es : List Expr} {te : TE} {t : Str → L2.St → Hp → VK → Prop} (he : PE X e te) (h : PJ X es t) : PJ X (.FormattedValue e (-1) none pos :: es) (tJV te t) := by
  intro pins s σ H acc Q I q
  refine PyProof.Rows.joinParts_cons (PyProof.Rows.FormattedValue_plain (thn (he pins s σ H _ I q) fun v s1 ⟨x, H1, I1, r1, q1⟩ => ?_))
  cases x <;> first
    | exact False.elim q1
    | (rename_i y
       obtain ⟨tk, rfl⟩ := r1
       first
         | exact PyProof.Rows.formatField_str (fun t' k => ⟨q1.2.1, h pins _ σ H1 _ Q (I1.tok _) q1.2.2⟩) q1.1
         | exact PyProof.Rows.formatField_int_small q1.1 ⟨q1.2.1, h pins _ σ H1 _ Q (I1.tok _) q1.2.2⟩)
def dFS (t : Str → L2.St → Hp → VK → Prop) : TE := fun σ H Q => t Str.empty σ H Q
theorem e_fstr {a b : Expr} {es : List Expr} {t : Str → L2.St → Hp → VK → Prop} (h : PJ X (a :: b :: es) t) : PE X (.JoinedStr (a :: b :: es) pos) (dFS t) := fun pins s σ H Q I q => PyProof.Rows.JoinedStr_many (h pins s σ H Str.empty Q I q)
end
section
open PySem.AutoSeq1 (wpAny_loadPart')
open PySem.MeetsSeq PySem.MeetsSeq2 PySem.MeetsSeq3 PySem.SeqRoads2 PySem.SeqAt
section
variable {X : Cx} {pos : Pos}
def dTIx (K : PySem.W.Frag) : V → List V → Hp → VK → Prop := fun x xs H Q => match x, xs with
  | .ref p, [v] => ∃ (ys : List V) (j : Nat) (y : V), SqT K H p ys ∧ flatV v = true ∧ ys.all flatV = true ∧ ys[j]? = some y ∧ eqV y v = true ∧ (∀ m z, m < j → ys[m]? = some z → eqV z v = false) ∧ Q (.int (j : Int)) H
  | _, _ => False
end
end
def fg (m : Nat) : List Nat := co (Str.ofString (toString ((m : Nat) : Int)))
end Lw
end
section
set_option Elab.async false
set_option linter.all false
set_option maxRecDepth 100000
set_option maxHeartbeats 4000000
set_option autoImplicit false
namespace Lw
open PySem PySem.Spec PyProof.Rows L2
section
variable {X : Cx} {pos p2 p3 p4 : Pos}
def dIntB : List V → Hp → VK → Prop := fun xs H Q => match xs with
  | [.bl b] => Q (.int (if b then 1 else 0)) H
  | _ => False
def dRevS (te : TE) : TE := fun σ H Q => te σ H fun x H1 => match x with
  | .str z => z.length ≤ sizeLine ∧ ∀ z' : Str, z'.length ≤ z.length → Q (.str z') H1
  | _ => False
def dRepl (K : PySem.W.Frag) (tw : TE) (i : Int) (y z : Str) : TE := fun σ H Q => tw σ H fun w H1 => match w with
  | .ref p => ∃ (xs : List V) (x : Str), SqL K H1 p xs ∧ atI xs i = some (.str x) ∧ x.length ≤ 1000 ∧ Q (.str (Txt.replace x y z)) H1
  | _ => False
end
end Lw
end
section
set_option Elab.async false
set_option linter.all false
set_option maxRecDepth 100000
set_option maxHeartbeats 4000000
namespace Lw
open PySem PySem.Spec PyProof.Rows L2
section
variable {X : Cx}
def tCutE (t u : TS) : TS := fun D σ H => ∃ R : L2.St → Hp → Prop, t { D with nx := R } σ H ∧ ∀ σ' H', R σ' H' → u D σ' H'
theorem ss_cutE {st : Stmt} {r : List Stmt} {t u : TS} (h1 : PS X st t) (h2 : PSs X r u) : PSs X (st :: r) (tCutE t u) := by
  intro pins s σ H D I h
  obtain ⟨R, h⟩ := h
  exact ss_cut R h1 h2 pins s σ H D I h
end
end Lw
end
section
set_option Elab.async false
set_option linter.all false
set_option maxRecDepth 100000
set_option maxHeartbeats 4000000
namespace Lw
open PySem PySem.Spec PyProof.Rows L2
def dd (l : List Str) (x : Str) : List Str := if x ∈ l then l else l ++ [x]
def lS (a b : Str) : Prop := a.cps.toList < b.cps.toList
instance : DecidableRel lS := fun a b => inferInstanceAs (Decidable (a.cps.toList < b.cps.toList))
abbrev Inc (l : List Str) : Prop := l.Pairwise lS
def insS (x : Str) : List Str → List Str
  | [] => [x]
  | y :: l => if lS x y then x :: y :: l else if lS y x then y :: insS x l else y :: l
def srt (l : List Str) : List Str := l.foldr insS []
def ddn (val : Nat → Str) (i : Nat) : List Str := ((List.range i).map val).foldl dd []
end Lw
end
section
set_option Elab.async false
set_option linter.all false
set_option maxRecDepth 100000
set_option maxHeartbeats 4000000
namespace Lw
open PySem PySem.Spec PyProof.Rows L2
def byTx (w : World) : Bool := w.params.followText "set-order"
def tx (e : Int × Value) : Str := strOf e.2
structure SetO (prog : Program) (w : World) (o : Obj) (ss : List Str) (es : Array (Int × Value)) (ep : Nat) (t : SetTable) : Prop where
  ex : o.ExactSet
  dat : o.data = .set es ep t
  el : ElemsOf (PySem.strKind prog w) es.toList
  pm : (es.toList.map tx).Perm ss
  fit : t.fits es.size = true
  bd : es.size < scanBound
  led : t.led = !byTx w
  pl : 0 < es.size → t.plain = false
def SetS (prog : Program) (w : World) (h : Heap) (a : Addr) (ss : List Str) : Prop := ∃ o es ep t, h.get? a = some o ∧ SetO prog w o ss es ep t
section
variable {prog : Program} {w : World} {A : Around} {E : Value → Shared → Prop} {s : Shared}
def fsO (w : World) : Obj := { cls := .type "set", dict := none, data := .set #[] 0 (.fresh 0 0 (!byTx w)) }
end
end Lw
end
section
set_option Elab.async false
set_option linter.all false
set_option maxRecDepth 100000
set_option maxHeartbeats 4000000
namespace Lw
open PySem PySem.Spec PyProof.Rows L2
def SI (h : Heap) (I : Addr) (f : Value) (i : Nat) (a : Addr) (n ep : Nat) : Prop := ∃ o, h.get? I = some o ∧ o.cls = .type "set_iterator" ∧ o.data = .fields #[f, .int i 0, .ref a, .int n 0, .int ep 0]
section
variable {prog : Program} {w : World} {A : Around} {E : Value → Shared → Prop} {s : Shared}
end
section
variable {X : Cx}
def dSSet (K : PySem.W.Frag) (te : TE) : TE := fun σ H Q => te σ H fun x H1 => match x with
  | .ref l => ∃ names : List Str, SqL K H1 l (names.map V.str) ∧ names.length ≤ 1000 ∧ (srt names).length < 64 ∧ ∀ D, H1 D = none → Q (.ref D) (upd H1 D (.lst ((srt names).map V.str)))
  | _ => False
end
end Lw
end
section
set_option Elab.async false
set_option linter.all false
set_option maxRecDepth 100000
set_option maxHeartbeats 4000000
namespace Lw
open PySem PySem.Spec PyProof.Rows L2
section
variable {prog : Program} {w : World} {A : Around} {R : Result → Shared → Prop} {s : Shared}
end
@[irreducible] def CGoalI (J : It) (g : TG) (tc : TT) (te : TE) (k : Nat) (js : List Nat) (σ : L2.St) (H1 : Hp) (Q : VK) : Prop := ∀ D, H1 D = none → ∃ W : Nat → Nat → Hp → Prop, (∃ m, W 0 m (upd H1 D (.lst []))) ∧ ∀ i m H, W i m H →
  (J.stop i H ∧ Q (.ref D) H) ∨ (J.go i H ∧ ∀ x H', J.yld i H x H' → g x (List.replicate k none ++ capσ js σ) H' fun σ2 H2 => σ2.drop k = capσ js σ ∧ tc σ2 H2 fun b H3 => Br b (te σ2 H3 fun v H4 => ∃ xs, H4 D = some (.lst xs) ∧ xs.length < sizeLine ∧ ∃ m', m' < m ∧ W (i + 1) m' (upd H4 D (.lst (xs ++ [v])))) (∃ m', m' < m ∧ W (i + 1) m' H3))
def dCompI (wi : TI) (g : TG) (tc : TT) (te : TE) (k : Nat) (js : List Nat) : TE := fun σ H Q => wi σ H fun J H1 => CGoalI J g tc te k js σ H1 Q
section
variable {X : Cx}
end
end Lw
end
section
set_option Elab.async false
set_option linter.all false
set_option maxRecDepth 100000
set_option maxHeartbeats 4000000
namespace Lw
open PySem PySem.Spec PyProof.Rows L2
inductive All2 {α β : Type} (R : α → β → Prop) : List α → List β → Prop where
  | nil : All2 R [] []
  | cons {a : α} {b : β} {l : List α} {m : List β} : R a b → All2 R l m → All2 R (a :: l) (b :: m)
theorem All2.len {α β : Type} {R : α → β → Prop} : ∀ {l : List α} {m : List β}, All2 R l m → l.length = m.length
  | _, _, .nil => rfl
  | _, _, .cons _ r => by rw [List.length_cons, List.length_cons, r.len]
theorem All2.imp {α β : Type} {R S : α → β → Prop} (h : ∀ a b, R a b → S a b) : ∀ {l : List α} {m : List β}, All2 R l m → All2 S l m
  | _, _, .nil => .nil
  | _, _, .cons x r => .cons (h _ _ x) (r.imp h)
theorem All2.app {α β : Type} {R : α → β → Prop} : ∀ {l l' : List α} {m m' : List β}, All2 R l m → All2 R l' m' → All2 R (l ++ l') (m ++ m')
  | _, _, _, _, .nil, h => h
  | _, _, _, _, .cons x r, h => .cons x (r.app h)
def Kt (H H' : Hp) : Prop := ∀ p xs, H p = some (.tup xs) → H' p = some (.tup xs)
theorem kt_of {H H' : Hp} (s : Same H H') : Kt H H' := fun p xs h => s p _ h
theorem kt_upd {H : Hp} {D : Addr} {zs : List V} {o : HO} (h : H D = some (.lst zs)) : Kt H (upd H D o) := fun p xs e => by
  have ne : p ≠ D := fun z => by
    subst z
    rw [h] at e
    cases e
  rw [upd_ne ne]
  exact e
theorem same_app' {H0 H : Hp} {D : Addr} {o : HO} (s : Same H0 H) (h : H0 D = none) : Same H0 (upd H D o) := fun b u e => by
  rw [upd_ne (ne_of_none e h)]
  exact s b u e
structure Gm where
  d : Int
  a : Str
  b : Str
  h : Int
  s : Int
def GmAt (H : Hp) (v : V) (g : Gm) : Prop := ∃ p, v = .ref p ∧ H p = some (.tup [.int g.d, .str g.a, .str g.b, .int g.h, .int g.s])
def Bk (K : PySem.W.Frag) (H : Hp) (L : Addr) (gs : List Gm) : Prop := ∃ vs, SqL K H L vs ∧ All2 (GmAt H) vs gs ∧ gs.length ≤ 100
def trn (g : Gm) : Gm := ⟨g.d, g.b, g.a, 2 - g.h, -g.s⟩
def plr (gs : List Gm) : List Str := srt (gs.map (·.a) ++ gs.map (·.b))
def isIn (n : Str) (g : Gm) : Bool := n == g.a || n == g.b
def toldG (n : Str) (g : Gm) : Gm := if g.a = n then g else trn g
def tld (n : Str) (gs : List Gm) : List Gm := (gs.filter (isIn n)).map (toldG n)
def tkr (n : Str) (gs : List Gm) : List Str := srt (((tld n gs).filter fun g => decide (g.h < 2)).map (·.b))
section
variable {X : Cx}
def dSlN (K : PySem.W.Frag) : V → Option Int → Option Int → Hp → VK → Prop := fun x lo hi H Q => match x with
  | .ref a => ∃ xs, SqL K H a xs ∧ ∀ p, H p = none → Q (.ref p) (upd H p (.lst (cutV xs lo hi)))
  | _ => False
def dSortL (K : PySem.W.Frag) : List V → Hp → VK → Prop := fun xs H Q => match xs with
  | [.ref l] => ∃ names : List Str, SqL K H l (names.map V.str) ∧ names.length < 64 ∧ names.Nodup ∧ ∀ D, H D = none → Q (.ref D) (upd H D (.lst ((srt names).map V.str)))
  | _ => False
end
def gd (g : Gm) : PyData := .tuple [.int g.d, .str g.a, .str g.b, .int g.h, .int g.s]
end Lw
end
section
set_option Elab.async false
set_option linter.all false
set_option maxRecDepth 100000
set_option maxHeartbeats 4000000
namespace Lw
open PySem PySem.Spec PyProof.Rows L2
section
variable {X : Cx}
def dSum (K : PySem.W.Frag) : List V → Hp → VK → Prop := fun xs H Q => match xs with
  | [.ref l] => ∃ ns : List Int, SqL K H l (ns.map V.int) ∧ Q (.int ns.sum) H
  | _ => False
def dLstD : List V → Hp → VK → Prop := fun xs H Q => match xs with
  | [.ref d] => ∃ (kvs : List (Key × V)) (names : List Str), H d = some (.dK kvs) ∧ kvs.map (·.1) = names.map Sum.inr ∧ ∀ p, H p = none → Q (.ref p) (upd H p (.lst (names.map V.str)))
  | _ => False
end
end Lw
end
section
set_option Elab.async false
set_option linter.all false
set_option maxRecDepth 100000
set_option maxHeartbeats 4000000
namespace Lw
open PySem PySem.Spec PyProof.Rows L2
abbrev cxD (X : Cx) (N cs : List Str) (s₀ : Shared) (H₀ : Hp) (env : Env) (fp : List Addr) : Cx :=
  { X with N := N, s₀ := s₀, H₀ := H₀, env := env, outer := X.stack, ex := fp, fn := fun x => cs.contains x, pn := [], xe := fun _ _ => False }
section
variable {M : Model} {A : Around} {E : Value → Shared → Prop} {s : Shared}
end
section
variable {X : Cx}
end
end Lw
end
section
set_option Elab.async false
set_option linter.all false
set_option maxRecDepth 100000
set_option maxHeartbeats 4000000
namespace Lw
open PySem PySem.Spec PyProof.Rows L2
def insV (xs : List V) (k : Nat) (y : V) : List V := xs.take k ++ y :: xs.drop k
def rInsert : V → List V → Hp → VK → Prop := fun x vs H Q => ∃ l xs i y, x = .ref l ∧ vs = [.int i, y] ∧ H l = some (.lst xs) ∧ 0 ≤ i ∧ i ≤ xs.length ∧ xs.length < 1000 ∧ Q .non (upd H l (.lst (insV xs i.toNat y)))
section
variable {X : Cx}
end
theorem star_t {fs es : List Expr} {x : Nat} {p : Pos} {env : Env} : starEach (.Tuple fs x p :: es) env = (false, eval (.Tuple fs x p) env) :: starEach es env := rfl
theorem star_c {c : Const} {es : List Expr} {x : Nat} {p : Pos} {env : Env} : starEach (.Constant c x p :: es) env = (false, eval (.Constant c x p) env) :: starEach es env := rfl
theorem pa_consC {X : Cx} {c : Const} {es : List Expr} {x1 : Nat} {p : Pos} {te : TE} {t : TA} (ha : PE X (.Constant c x1 p) te) (hr : PA X es t) : PA X (.Constant c x1 p :: es) (tCons te t) := pa_cons ha hr star_c
structure QA (X : Cx) (es : List Expr) (t : TA) : Prop where
  pa : PA X es t
theorem qa_nil {X : Cx} : QA X [] tNil := ⟨pa_nil⟩
theorem qa_cons {X : Cx} {fs es : List Expr} {x1 : Nat} {p : Pos} {te : TE} {t : TA} (ha : PE X (.Tuple fs x1 p) te) (hr : QA X es t) : QA X (.Tuple fs x1 p :: es) (tCons te t) := ⟨pa_cons ha hr.pa star_t⟩
theorem e_lstQ {X : Cx} {es : List Expr} {t : TA} {pos : Pos} (h : QA X es t) : PE X (.List es pos) (dLst t) := e_lst h.pa
end Lw
end
section
set_option Elab.async false
set_option linter.all false
set_option maxRecDepth 100000
set_option maxHeartbeats 4000000
set_option autoImplicit false
namespace Lw
open PySem PySem.Spec PyProof.Rows L2
def tTryIf (tc : TT) (t u : TS) : TS := fun D σ H => tc σ H fun b H1 => Br b (t D σ H1) (u D σ H1)
section
variable {X : Cx} {pins : List (Addr × Obj)} {σ : L2.St} {H : Hp} {s : Shared}
def tTryA (K : PySem.W.Frag) (ta : TA) (sp : Sp) (D' : Addr) (n i : Nat) (tu : TS) : TS := fun D σ H => ta σ H fun vs H1 => sp vs H1 (fun v H2 => D.nx (σ.set i (some v)) H2) fun cls _ H2 => ∃ C, cls = .ref C ∧ ExcC K C ∧ PySem.W.mroIn K C (.ref D') = some true ∧
  ∀ a H3, Same H2 H3 → H3 a = some (.ext (ExcAt a C)) → tu { nx := fun σ' H' => D.nx (σ'.set n none) H', rt := D.rt, bk := fun σ' H' => D.bk (σ'.set n none) H', ct := fun σ' H' => D.ct (σ'.set n none) H' } (σ.set n (some (.ref a))) H3
theorem ps_tryA {f x : Str} {ps : List Str} {k k' : Nat} {sp : Sp} {p cpos apos pos yp hpos pos' : Pos} {e : Expr} {es : List Expr} {t : TA} {D' : Addr} {n i : Nat} {y nm : Str} {b₀ : Stmt} {suite : List Stmt} {tu : TS} (dx : DefCx X)
    (C : Cal X.prog X.w X.K X.mg X.base f ps k sp) (hr : Room k' X.A) (hk : k ≤ k') (hg : Gl X f) (ha : PA X.nox (e :: es) t) (hi : X.N[i]? = some x) (hx : X.env.scope.names.lookup x = some .local)
    (hy : Gl X y) (hD : X.mg y = some (.ref D')) (cD : Cat X.K D') (nd : X.N.Nodup) (hn : X.N[n]? = some nm) (hl : X.env.scope.names.lookup nm = some .local) (hu : ∀ v, PSs (cxM X v) (b₀ :: suite) tu)
    (hdb : (f == ("__debug__" : Str)) = false := by decide) (hdb2 : (y == ("__debug__" : Str)) = false := by decide) (he : starEach (e :: es) X.env = (false, eval e X.env) :: starEach es X.env := by rfl) (hpl : (backTo cpos (starEach es X.env)).any (·.1) = false := by rfl)
    (hs : swapsWith (.Call (.Name f p) (e :: es) [] cpos) (some (.Name x pos')) apos.line X.env = pure false := by rfl) :
    PS X (.Try [.Assign [.Name x pos'] (.Call (.Name f p) (e :: es) [] cpos) apos] [.ExceptHandler (some (.Name y yp)) (some nm) (b₀ :: suite) hpos] [] [] pos) (tTryA X.K t sp D' n i tu) := by
  obtain ⟨fa, fd, h1, h2, h3, h4, _⟩ := C.ex
  intro pins s σ H D I h
  refine wpAny_Try_except (wpAny_execs_cons (wpAny_Assign_Name ?_ hs))
  refine wpAny_Call_Name_kw (ld_glob I hg h1 ?_ hdb)
  refine PySem.W.callWith_K (h₀ := X.base) I.ok.mod.kin h2 (wpAny_mono (ha cpos pins s σ H _ (I.wish _) h) (fun us s1 ⟨vs, H1, I1, r, q⟩ => ?_) fun _ _ z => z.elim) he hpl
  have I1 := I1.unwish
  refine ⟨I1.kIn, ?_⟩
  have hus : us.length = ps.length := by rw [← r.length]; exact h4.len _ _ _ _ q
  have hb := h3 s1 us I1.kIn (by rw [List.append_nil]; exact hus)
  rw [List.append_nil] at hb
  refine wpAny_call (codeAny_mono ((h4.mono hk).run X.A X.stack s1 H1 ⟨us, []⟩ us vs _ _ hr I1.env0 hb r q) fun res s' hq => ?_)
  cases res with
  | ok fl =>
    cases fl with
    | ret u =>
      obtain ⟨v, H2, I2, rv, q2⟩ := I1.after hq
      exact store_ok I2 nd hi (.inl hx) rv (fun s2 I3 => wpAny_execs_nil (wpAny_execs_nil ⟨_, H2, I3, q2⟩)) (.inr hx)
    | next => exact False.elim hq
    | brk => exact False.elim hq
    | cont => exact False.elim hq
  | error er =>
    obtain ⟨a, cls, H2, B, a0, rfl, F, C', rfl, c, hm, q2⟩ := hq
    exact handle_ok dx I1 F hy hD cD hm nd hn hl hu hdb2 fun H3 => q2 a H3
end
end Lw
end
set_option Elab.async false
set_option linter.all false
set_option maxRecDepth 100000
set_option maxHeartbeats 0
set_option exponentiation.threshold 5000
namespace My
open PySem PySem.Spec PyProof.Rows L2 Lw
local macro_rules | `(tactic| walk_at "hp") => `(tactic| first | assumption | (refine sm_at (by assumption) ?_; walk_at "hp") | (refine sm_sq (by assumption) ?_; walk_at "hp") | (refine Fq.up (by assumption) ?_; walk_at "hp") | (refine Pq.up (by assumption) ?_; walk_at "hp"))
def top (i : Nat) : Stmt := PySem.Challenge.pw_ladderworth_k82_no_trees.main.body.getD i (.Pass ⟨0, 0, 0, 0⟩)
abbrev s_is_name : Stmt := top 16
abbrev s_leaves : Stmt := top 19
abbrev s_read_tree : Stmt := top 22
abbrev s_read_part : Stmt := top 23
abbrev s_read_word : Stmt := top 24
abbrev s_check_sign : Stmt := top 25
abbrev s_show_tree : Stmt := top 26
abbrev s_show_part : Stmt := top 27
abbrev s_l_cell_at : Stmt := top 29
abbrev s_l_stream : Stmt := top 30
abbrev s_l_text : Stmt := top 31
abbrev s_l_spoiled : Stmt := top 32
abbrev s_l_words : Stmt := top 33
abbrev s_l_is_name : Stmt := top 34
abbrev s_l_is_tree : Stmt := top 35
abbrev s_l_no_tree : Stmt := top 36
abbrev s_l_told : Stmt := top 37
abbrev s_law : Stmt := top 38
structure Errs (K : PySem.W.Frag) (mg : Str → Option Value) (c_LadderError c_NoBook c_NoFit c_NoGame c_NoNumber c_NoPlayer c_NoRow c_NoStretch c_NoTable c_NoTree c_NoWorth : Addr) : Prop where
  b_LadderError : mg "LadderError" = some (.ref c_LadderError)
  b_NoBook : mg "NoBook" = some (.ref c_NoBook)
  b_NoFit : mg "NoFit" = some (.ref c_NoFit)
  b_NoGame : mg "NoGame" = some (.ref c_NoGame)
  b_NoNumber : mg "NoNumber" = some (.ref c_NoNumber)
  b_NoPlayer : mg "NoPlayer" = some (.ref c_NoPlayer)
  b_NoRow : mg "NoRow" = some (.ref c_NoRow)
  b_NoStretch : mg "NoStretch" = some (.ref c_NoStretch)
  b_NoTable : mg "NoTable" = some (.ref c_NoTable)
  b_NoTree : mg "NoTree" = some (.ref c_NoTree)
  b_NoWorth : mg "NoWorth" = some (.ref c_NoWorth)
  y_NoTree : PySem.W.nsIn K mainGlobals "NoTree" = some (some (.ref c_NoTree))
  x_LadderError : ExcC K c_LadderError
  x_NoTree : ExcC K c_NoTree
  kv_NoTree : PySem.W.kitOne K (.ref c_NoTree) (.type "ValueError") = some true
  kk_NoTree_LadderError : PySem.W.kitOne K (.ref c_NoTree) (.ref c_LadderError) = some true
  kk_NoTree_NoBook : PySem.W.kitOne K (.ref c_NoTree) (.ref c_NoBook) = some false
  kk_NoTree_NoFit : PySem.W.kitOne K (.ref c_NoTree) (.ref c_NoFit) = some false
  kk_NoTree_NoGame : PySem.W.kitOne K (.ref c_NoTree) (.ref c_NoGame) = some false
  kk_NoTree_NoNumber : PySem.W.kitOne K (.ref c_NoTree) (.ref c_NoNumber) = some false
  kk_NoTree_NoPlayer : PySem.W.kitOne K (.ref c_NoTree) (.ref c_NoPlayer) = some false
  kk_NoTree_NoRow : PySem.W.kitOne K (.ref c_NoTree) (.ref c_NoRow) = some false
  kk_NoTree_NoStretch : PySem.W.kitOne K (.ref c_NoTree) (.ref c_NoStretch) = some false
  kk_NoTree_NoTable : PySem.W.kitOne K (.ref c_NoTree) (.ref c_NoTable) = some false
  kk_NoTree_NoTree : PySem.W.kitOne K (.ref c_NoTree) (.ref c_NoTree) = some true
  kk_NoTree_NoWorth : PySem.W.kitOne K (.ref c_NoTree) (.ref c_NoWorth) = some false
  km_NoTree_LadderError : PySem.W.mroIn K c_NoTree (.ref c_LadderError) = some true
  km_NoTree_NoTree : PySem.W.mroIn K c_NoTree (.ref c_NoTree) = some true
section
variable {P : Program} {w : World} {K : PySem.W.Frag} {mg : Str → Option Value} {base : Heap} {ns : List Int}
variable {c_LadderError c_NoBook c_NoFit c_NoGame c_NoNumber c_NoPlayer c_NoRow c_NoStretch c_NoTable c_NoTree c_NoWorth : Addr}
theorem nb {P : Prop} {a b : Bool} (h : a = b) (n : (a == b) = false := by rfl) : P := by
  subst h
  rw [beq_self_eq_true] at n
  cases n
def wh : V → Bool
  | .int _ => true
  | _ => false
def Kd (H : Hp) : V → Prop
  | .int _ => True
  | .bl _ => True
  | .non => True
  | .str _ => True
  | .ref p => ∃ u t, H p = some u ∧ tyHO u = some t ∧ tyB t "int" = some false
  | _ => False
theorem Kd.up {H H' : Hp} (s : Same H H') : ∀ {v : V}, Kd H v → Kd H' v
  | .int _, h => h
  | .bl _, h => h
  | .non, h => h
  | .str _, h => h
  | .ref p, ⟨u, t, h1, h2⟩ => ⟨u, t, s _ _ h1, h2⟩
  | .flt _, h => h.elim
  | .byt _, h => h.elim
  | .ty _, h => h.elim
def ExN (K : PySem.W.Frag) (x : Str) (E : XK) (H : Hp) : Prop := ∀ C, PySem.W.nsIn K mainGlobals x = some (some (.ref C)) → E (.ref C) none H
def Cgt (K : PySem.W.Frag) (x : Str) (H : Hp) (p : Addr) : Prop := ∃ C, PySem.W.nsIn K mainGlobals x = some (some (.ref C)) ∧ H p = some (.ext (ExcAt p C))
theorem ns_inj {K : PySem.W.Frag} {x : Str} {C D : Addr} (h : PySem.W.nsIn K mainGlobals x = some (some (.ref C))) (h' : PySem.W.nsIn K mainGlobals x = some (some (.ref D))) : C = D := by
  rw [h] at h'
  cases h'
  rfl
def SM (K : PySem.W.Frag) (x : Str) (H : Hp) (vs : List V) (n : Nat) : L2.St → Hp → Prop := fun σ H' => ∃ p, σ = vs.map some ++ some (.ref p) :: List.replicate n none ∧ Cgt K x H' p ∧ Same H H'
def btw (v : V) (lo hi : Int) : Bool := match v with
  | .int i => decide (lo ≤ i) && decide (i ≤ hi)
  | _ => false
theorem ty_str {u : HO} {t : String} (h : tyHO u = some t) : tyB t "str" = some false := by
  cases u with
  | lst _ => cases h; rfl
  | tup _ => cases h; rfl
  | dK _ => cases h; rfl
  | dT _ => cases h; rfl
  | frz o u =>
    cases u with
    | lst _ => cases h; rfl
    | _ => cases h
  | _ => cases h
def isNmS (x : Str) : Bool := decide (1 ≤ x.length) && decide (x.length ≤ 8) && (co x).all fun c => decide (c ∈ co abc)
def isNm : V → Bool
  | .str x => isNmS x
  | _ => false
theorem abc_mem {c : Nat} : c ∈ co abc ↔ 97 ≤ c ∧ c < 123 := by
  have e : co abc = (List.range 26).map fun j => 97 + j := by decide +kernel
  rw [e, List.mem_map]
  constructor
  · rintro ⟨j, hj, rfl⟩
    have := List.mem_range.mp hj
    omega
  · intro h
    exact ⟨c - 97, List.mem_range.mpr (by omega), by omega⟩
theorem _root_.Lw.Nm.is {x : Str} (h : Nm x) : isNmS x = true := by
  unfold isNmS
  have l := co_len x
  have h1 := h.len1
  have h8 := h.len8
  rw [Bool.and_eq_true, Bool.and_eq_true]
  refine ⟨⟨decide_eq_true (by omega), decide_eq_true (by omega)⟩, List.all_eq_true.mpr fun c hc => decide_eq_true (abc_mem.mpr (h.abc c hc))⟩
def sp_is_name (K : PySem.W.Frag) (ns : List Int) : Sp := fun vs H Q _ => match vs with
  | [v] => Kd H v ∧ (∀ z, v = .str z → z.length ≤ 1000) ∧ ∀ H', Same H H' → Q (.bl (isNm v)) H'
  | _ => False
theorem sc_is_name : FnScope ["thing"] ["thing"] (defScope s_is_name) := ⟨rfl, rfl, rfl, by decide +kernel, rfl, by decide +kernel, by decide +kernel⟩
theorem ok_is_name (d : Dfn K mg "is_name" s_is_name ["thing"]) (er : Errs K mg c_LadderError c_NoBook c_NoFit c_NoGame c_NoNumber c_NoPlayer c_NoRow c_NoStretch c_NoTable c_NoTree c_NoWorth) (n_all : mg "all" = none) (n_len : mg "len" = none) (n_isinstance : mg "isinstance" = none) (n_str : mg "str" = none) (v_LETTERS : Cst mg "LETTERS" (.str "abcdefghijklmnopqrstuvwxyz")) (v_LONGEST_NAME : Cst mg "LONGEST_NAME" (.int (8)))  : Cal P w K mg base "is_name" ["thing"] 1 (sp_is_name K ns) := by
  refine d.cal (k := 0) sc_is_name (fun vs H Q E h => ?_) (fun f cdv A outer s H vs Q E hr h => ?_)
  · match vs, h with
    | [_], _ => rfl
  · refine ⟨_, (@pss_cons _ _ _ _ _ (@s_if _ _ _ _ _ _ _ _ (@L2.PW.pt _ _ _ (@w_or _ _ _ _ _ _ _ (@pt_not _ _ _ _ (@t_val _ _ _ (@pe_callB _ _ _ _ _ _ _ _ _ c_isi (by rfl) n_isinstance (by decide +kernel) (@pa_cons _ _ _ _ _ (dv 0) (@pa_cons _ _ _ _ _ (e_ty "str" (by rfl) n_str (by decide +kernel)) pa_nil (by rfl)) (by rfl)) (by decide) (by decide) (by rfl) (by rfl)) (by intro _; rfl))) (@pw_or1 _ _ _ _ (@pt_not _ _ _ _ (@t_chain _ _ _ _ _ _ _ _ _ _ _ _ o_le o_le pe_int (@pe_callB _ _ _ _ _ _ _ _ _ c_len (by rfl) n_len (by decide +kernel) (@pa_cons _ _ _ _ _ (dv 0) pa_nil (by rfl)) (by decide) (by decide) (by rfl) (by rfl)) (g_cst v_LONGEST_NAME (by rfl)) (by with_unfolding_all rfl)))))) (@pss_one _ _ _ (@ps_ret _ _ _ _ pe_bl)) pss_nil) (@pss_one _ _ _ (@ps_ret _ _ _ _ (@pe_callB _ _ _ _ _ _ _ _ _ (@c_all _ rfl) (by rfl) n_all (by decide +kernel) (@pa_cons _ _ _ _ _ (@e_compN _ _ _ _ _ _ _ _ _ _ ["sign"] [] [] rfl (@pi_str _ _ _ _ (dv 0)) (fun C s H fp => (@pg_name _ _ (0) _ (show List.Nodup [("sign" : Str)] by decide +kernel) rfl (by first | exact Or.inl rfl | exact Or.inr rfl) (by first | exact .inl rfl | exact .inr rfl | assumption))) (fun C s H fp => (@pe_cmpR _ _ _ _ _ _ _ _ o_in1 (dv 0) (g_cst v_LETTERS (by rfl)) (by with_unfolding_all rfl))) rfl rfl (by decide +kernel) (by decide +kernel) (by rfl) True.intro True.intro (by intro _; rfl)) pa_nil (by rfl)) (by decide) (by decide) (by rfl) (by rfl))))), ?_⟩
    match vs, h with
    | [.int _], ⟨_, _, q⟩ => exact ⟨false, rfl, ⟨fun _ => ⟨fun _ => q _ (Same.refl _), fun h => nb h⟩, fun h => nb h⟩⟩
    | [.bl _], ⟨_, _, q⟩ => exact ⟨false, rfl, ⟨fun _ => ⟨fun _ => q _ (Same.refl _), fun h => nb h⟩, fun h => nb h⟩⟩
    | [.non], ⟨_, _, q⟩ => exact ⟨false, rfl, ⟨fun _ => ⟨fun _ => q _ (Same.refl _), fun h => nb h⟩, fun h => nb h⟩⟩
    | [.ref _], ⟨⟨u, t, h1, h2, h3⟩, _, q⟩ => exact ⟨u, false, t, h1, h2, ty_str h2, ⟨fun _ => ⟨fun _ => q _ (Same.refl _), fun h => nb h⟩, fun h => nb h⟩⟩
    | [.flt _], ⟨z, _⟩ => exact z.elim
    | [.byt _], ⟨z, _⟩ => exact z.elim
    | [.ty _], ⟨z, _⟩ => exact z.elim
    | [.str x], ⟨_, hz, q⟩ =>
      have hz := hz x rfl
      refine ⟨true, rfl, ⟨fun h => nb h, fun _ => ⟨Nat.le_trans hz (by decide), ⟨fun h1 => ⟨fun h2 => ?_, fun h2 => ?_⟩, fun h1 => ?_⟩⟩⟩⟩
      · have h2 : ¬ (x.length : Int) ≤ 8 := by simpa using h2
        have e : isNm (.str x) = false := by
          show isNmS x = false
          unfold isNmS
          rw [decide_eq_false (show ¬ x.length ≤ 8 by omega), Bool.and_false, Bool.false_and]
        have q := q _ (Same.refl _)
        rw [e] at q
        exact q
      · have h2 : (x.length : Int) ≤ 8 := by simpa using h2
        show CGoal (Its x) _ _ _ _ _ _ _
        refine comp_str (fun c => .bl (decide (c ∈ co abc))) hz (fun c H2 hc s2 P hP => ⟨rfl, c, rfl, hP⟩) fun D H2 s2 e2 => ⟨(co x).map fun c => decide (c ∈ co abc), SqL.of (by rw [e2, List.map_map]; rfl), ?_⟩
        have e : isNm (.str x) = ((co x).map fun c => decide (c ∈ co abc)).all id := by
          have h1 : (1 : Int) ≤ x.length := of_decide_eq_true h1
          show isNmS x = _
          unfold isNmS
          rw [decide_eq_true (show 1 ≤ x.length by omega), decide_eq_true (show x.length ≤ 8 by omega), List.all_map]
          rfl
        rw [← e]
        exact q H2 s2
      · refine ⟨fun _ => ?_, fun h => nb h⟩
        have e : isNm (.str x) = false := by
          have h1 : ¬ (1 : Int) ≤ x.length := of_decide_eq_false h1
          show isNmS x = false
          unfold isNmS
          rw [decide_eq_false (show ¬ 1 ≤ x.length by omega), Bool.false_and, Bool.false_and]
        have q := q _ (Same.refl _)
        rw [e] at q
        exact q
def eqS : V → V → Bool
  | .str a, .str b => decide (a = b)
  | _, _ => false
def goodG (d x y h s : V) : Bool := btw d 0 9999 && isNm x && isNm y && !eqS x y && btw h 0 2 && btw s (-1) 1
def SL (v : V) : Prop := ∀ z, v = .str z → z.length ≤ 1000
theorem none_back {H H' : Hp} {D : Addr} (s : Same H H') (h : H' D = none) : H D = none := by
  cases e : H D with
  | none => rfl
  | some o =>
    rw [s _ _ e] at h
    cases h
inductive Tr where
  | leaf (s : Str)
  | node (l r : Tr)
def TrAt (H : Hp) : Tr → V → Prop
  | .leaf s, v => v = .str s
  | .node l r, v => ∃ p a b, v = .ref p ∧ H p = some (.tup [a, b]) ∧ TrAt H l a ∧ TrAt H r b
def lv : Tr → List Str
  | .leaf s => [s]
  | .node l r => lv l ++ lv r
def sz : Tr → Nat
  | .leaf _ => 1
  | .node l r => sz l + sz r + 1
def td : Tr → PyData
  | .leaf s => .str s
  | .node l r => .tuple [td l, td r]
theorem tr_up {H H' : Hp} (k : Kt H H') : ∀ (t : Tr) (v : V), TrAt H t v → TrAt H' t v
  | .leaf _, _, h => h
  | .node l r, v, ⟨p, a, b, e, h, h1, h2⟩ => ⟨p, a, b, e, k _ _ h, tr_up k l a h1, tr_up k r b h2⟩
theorem lv_pos : ∀ t, 0 < (lv t).length
  | .leaf _ => Nat.one_pos
  | .node l r => by
    have := lv_pos l
    show 0 < (lv l ++ lv r).length
    rw [List.length_append]
    omega
structure TOk (t : Tr) : Prop where
  nd : (lv t).Nodup
  len : (lv t).length ≤ 8
  nm : ∀ x ∈ lv t, Nm x
theorem nm_ok {x : Str} (h : Nm x) : PyData.strOk x = true := ok_of fun c hc => by
  have := h.abc c hc
  omega
theorem TOk.left {l r : Tr} (h : TOk (.node l r)) : TOk l := by
  have nd : (lv l ++ lv r).Nodup := h.nd
  have len : (lv l ++ lv r).length ≤ 8 := h.len
  rw [List.length_append] at len
  exact ⟨(List.nodup_append.mp nd).1, by omega, fun x hx => h.nm x (List.mem_append_left _ hx)⟩
theorem TOk.right {l r : Tr} (h : TOk (.node l r)) : TOk r := by
  have nd : (lv l ++ lv r).Nodup := h.nd
  have len : (lv l ++ lv r).length ≤ 8 := h.len
  rw [List.length_append] at len
  exact ⟨(List.nodup_append.mp nd).2.1, by omega, fun x hx => h.nm x (List.mem_append_right _ hx)⟩
theorem nil_or_snoc {α : Type} (l : List α) : l = [] ∨ ∃ m a, l = m ++ [a] := by
  rcases List.eq_nil_or_concat l with h | ⟨m, a, h⟩
  · exact .inl h
  · exact .inr ⟨m, a, by rw [h, List.concat_eq_append]⟩
theorem a2_unsnoc {α β : Type} {R : α → β → Prop} : ∀ {l : List α} {m : List β} {b : β}, All2 R l (m ++ [b]) → ∃ l' a, l = l' ++ [a] ∧ All2 R l' m ∧ R a b
  | _, [], b, h => by
    cases h with
    | cons x r =>
      cases r
      exact ⟨[], _, rfl, .nil, x⟩
  | _, c :: m, b, h => by
    cases h with
    | cons x r =>
      obtain ⟨l', a, rfl, h1, h2⟩ := a2_unsnoc r
      exact ⟨_ :: l', a, rfl, .cons x h1, h2⟩
theorem eqv_nil {l : List PyData} (h : l ≠ []) : PyData.eqv (.list l) (.list []) = false := by
  cases l with
  | nil => exact absurd rfl h
  | cons x r => rfl
theorem in_strs {n : Str} {l : List Str} : inV (.str n) (l.map V.str) = decide (n ∈ l) := by
  unfold inV
  rw [List.any_map]
  by_cases h : n ∈ l
  · rw [decide_eq_true h, List.any_eq_true]
    exact ⟨n, h, by show (n == n) = true; simp⟩
  · rw [decide_eq_false h, List.any_eq_false]
    intro x hx e
    have e : (x == n) = true := e
    exact h (eq_of_beq e ▸ hx)
theorem flat_strs (l : List Str) : (l.map V.str).all flatV = true := by
  rw [List.all_map]
  exact List.all_eq_true.mpr fun _ _ => rfl
def hd (ts : List Tr) : List Str := (ts.reverse.map lv).flatten
inductive Th where
  | lf (v : V) (d : PyData)
  | nd (l r : Th)
def NT (H : Hp) : V → Prop
  | .int _ => True
  | .bl _ => True
  | .non => True
  | .str _ => True
  | .ref p => ∃ u t, H p = some u ∧ tyHO u = some t ∧ tyB t "tuple" = some false ∧ tyB t "int" = some false
  | _ => False
theorem NT.up {H H' : Hp} (s : Same H H') : ∀ {v : V}, NT H v → NT H' v
  | .int _, h => h
  | .bl _, h => h
  | .non, h => h
  | .str _, h => h
  | .ref p, ⟨u, t, h1, h2⟩ => ⟨u, t, s _ _ h1, h2⟩
  | .flt _, h => h.elim
  | .byt _, h => h.elim
  | .ty _, h => h.elim
def PrAt (H : Hp) (v : V) (b : Bool) : Prop := (∃ t xs, v = .ref t ∧ H t = some (.tup xs) ∧ xs.length ≤ 100 ∧ b = decide ((xs.length : Int) = 2)) ∨ (NT H v ∧ b = false)
theorem PrAt.up {H H' : Hp} {v : V} {b : Bool} (s : Same H H') (h : PrAt H v b) : PrAt H' v b := by
  rcases h with ⟨t, xs, a, e, z⟩ | ⟨a, e⟩
  · exact .inl ⟨t, xs, a, s _ _ e, z⟩
  · exact .inr ⟨a.up s, e⟩
structure LfOk (K : PySem.W.Frag) (H : Hp) (v : V) (d : PyData) : Prop where
  kd : Kd H v
  np : PrAt H v false
  sl : ∀ z, v = .str z → z.length ≤ 1000
  rp : Rp K H v d
  cl : d.canLay0 = true
  dp : d.depth ≤ 2
theorem LfOk.up {K : PySem.W.Frag} {H H' : Hp} {v : V} {d : PyData} (s : Same H H') (h : LfOk K H v d) : LfOk K H' v d := ⟨h.kd.up s, h.np.up s, h.sl, h.rp.up s, h.cl, h.dp⟩
def ThAt (K : PySem.W.Frag) (H : Hp) : Th → V → Prop
  | .lf u d, v => v = u ∧ LfOk K H v d
  | .nd l r, v => ∃ p a b, v = .ref p ∧ H p = some (.tup [a, b]) ∧ ThAt K H l a ∧ ThAt K H r b
theorem th_up {K : PySem.W.Frag} {H H' : Hp} (s : Same H H') : ∀ (t : Th) (v : V), ThAt K H t v → ThAt K H' t v
  | .lf _ _, _, h => ⟨h.1, h.2.up s⟩
  | .nd l r, v, ⟨p, a, b, e, h, h1, h2⟩ => ⟨p, a, b, e, s _ _ h, th_up s l a h1, th_up s r b h2⟩
def lvT : Th → List V
  | .lf v _ => [v]
  | .nd l r => lvT l ++ lvT r
def szT : Th → Nat
  | .lf _ _ => 1
  | .nd l r => szT l + szT r + 1
def dtT : Th → PyData
  | .lf _ d => d
  | .nd l r => .tuple [dtT l, dtT r]
theorem lvT_pos : ∀ t, 0 < (lvT t).length
  | .lf _ _ => Nat.one_pos
  | .nd l r => by
    have := lvT_pos l
    show 0 < (lvT l ++ lvT r).length
    rw [List.length_append]
    omega
theorem th_rp {K : PySem.W.Frag} {H : Hp} : ∀ (t : Th) (v : V), ThAt K H t v → Rp K H v (dtT t) ∧ (dtT t).canLay0 = true ∧ (dtT t).depth ≤ (lvT t).length + 1
  | .lf u d, v, h => ⟨h.2.rp, h.2.cl, h.2.dp⟩
  | .nd l r, v, ⟨p, a, b, e, h, h1, h2⟩ => by
    subst e
    obtain ⟨a1, a2, a3⟩ := th_rp l a h1
    obtain ⟨b1, b2, b3⟩ := th_rp r b h2
    have pl := lvT_pos l
    have pr := lvT_pos r
    refine ⟨.tup (SqT.of h) (.cons a1 (.cons b1 .nil)), ?_, ?_⟩
    · show ((dtT l).canLay0 && ((dtT r).canLay0 && true)) = true
      rw [a2, b2]
      rfl
    · show max (dtT l).depth (max (dtT r).depth 0) + 1 ≤ (lvT l ++ lvT r).length + 1
      rw [List.length_append]
      omega
theorem rpl_th {K : PySem.W.Frag} {H : Hp} {n : Nat} : ∀ {vs : List V} {ts : List Th}, All2 (fun v t => ThAt K H t v) vs ts → (∀ t ∈ ts, (lvT t).length ≤ n) → RpL K H vs (ts.map dtT) ∧ PyData.canLayAll0 (ts.map dtT) = true ∧ PyData.depthAll (ts.map dtT) ≤ n + 1
  | _, _, .nil, _ => ⟨.nil, rfl, Nat.zero_le _⟩
  | _, _, .cons (a := v) (b := t) (l := vs) (m := ts) h r, hn => by
    obtain ⟨i1, i2, i3⟩ := rpl_th r fun t ht => hn t (List.mem_cons_of_mem _ ht)
    obtain ⟨h1, h2, h3⟩ := th_rp t v h
    have := hn t List.mem_cons_self
    refine ⟨.cons h1 i1, ?_, ?_⟩
    · show ((dtT t).canLay0 && PyData.canLayAll0 (ts.map dtT)) = true
      rw [h2, i2]
      rfl
    · show max (dtT t).depth (PyData.depthAll (ts.map dtT)) ≤ n + 1
      omega
theorem sh_th {l : List PyData} {n : Nat} (h : PyData.canLayAll0 l = true) (h' : PyData.depthAll l ≤ n + 1) (hn : n ≤ 50) : SeqAt.shaped (.list l) = true := by
  unfold SeqAt.shaped
  rw [show (PyData.list l).canLay0 = true from h, show (PyData.list l).depth = PyData.depthAll l + 1 from rfl, Bool.true_and]
  exact decide_eq_true (by omega)
def run : List V → List Str → Option (List Str)
  | [], ns => some ns
  | v :: vs, ns => if isNm v && (match v with | .str s => decide (s ∉ ns) | _ => false) && decide (ns.length < 8) then run vs (match v with | .str s => ns ++ [s] | _ => ns) else none
theorem run_no {y : V} {vs : List V} {ns : List Str} (h : isNm y = false) : run (y :: vs) ns = none := by
  unfold run
  rw [h]
  rfl
theorem run_in {x : Str} {vs : List V} {ns : List Str} (h : x ∈ ns) : run (.str x :: vs) ns = none := by
  unfold run
  rw [if_neg]
  simp [h]
theorem run_8 {x : Str} {vs : List V} {ns : List Str} (h : ¬ ns.length < 8) : run (.str x :: vs) ns = none := by
  unfold run
  rw [if_neg]
  simp [h]
theorem run_ok {x : Str} {vs : List V} {ns : List Str} (h : isNm (.str x) = true) (h' : x ∉ ns) (h8 : ns.length < 8) : run (.str x :: vs) ns = run vs (ns ++ [x]) := by
  conv => lhs; unfold run
  rw [if_pos]
  simp [h, h', h8]
theorem nm_str : ∀ {y : V}, isNm y = true → ∃ x, y = .str x
  | .str x, _ => ⟨x, rfl⟩
  | .int _, h => by cases h
  | .bl _, h => by cases h
  | .non, h => by cases h
  | .ref _, h => by cases h
  | .flt _, h => by cases h
  | .byt _, h => by cases h
  | .ty _, h => by cases h
theorem ask_no {K : PySem.W.Frag} {H : Hp} {y : V} {a b c : Option V} {P : Bool → Hp → Prop} (h : PrAt H y false) (q : P false H) :
    dAnd (dTest (tCB dIsi (tCons (dVar 3) (tCons (tC (.ty "tuple")) tNil)))) (dTest (tOp dEq (tCB (dLen K) (tCons (dVar 3) tNil)) (tC (.int 2)))) [a, b, c, some y] H P := by
  rcases h with ⟨t, xs, rfl, e, hl, hb⟩ | ⟨nt, _⟩
  · refine ⟨_, true, "tuple", e, rfl, rfl, ⟨fun _ => ⟨_, .inr (SqT.of e), ?_⟩, fun h => nb h⟩⟩
    show P (decide ((xs.length : Int) = 2)) H
    rw [← hb]
    exact q
  · cases y with
    | int _ => exact ⟨false, rfl, ⟨fun h => nb h, fun _ => q⟩⟩
    | bl _ => exact ⟨false, rfl, ⟨fun h => nb h, fun _ => q⟩⟩
    | non => exact ⟨false, rfl, ⟨fun h => nb h, fun _ => q⟩⟩
    | str _ => exact ⟨false, rfl, ⟨fun h => nb h, fun _ => q⟩⟩
    | ref p =>
      obtain ⟨u, t, h1, h2, h3, _⟩ := nt
      exact ⟨u, false, t, h1, h2, h3, ⟨fun h => nb h, fun _ => q⟩⟩
    | flt _ => exact nt.elim
    | byt _ => exact nt.elim
    | ty _ => exact nt.elim
def hdT (ts : List Th) : List V := (ts.reverse.map lvT).flatten
theorem hdT_snoc (ts : List Th) (t : Th) : hdT (ts ++ [t]) = lvT t ++ hdT ts := by
  unfold hdT
  rw [List.reverse_append]
  rfl
theorem hdT_len (ts : List Th) : ts.length ≤ (hdT ts).length := by
  have h : ∀ l : List Th, l.length ≤ ((l.map lvT).flatten).length := fun l => by
    induction l with
    | nil => exact Nat.zero_le _
    | cons t l ih =>
      have p := lvT_pos t
      rw [List.map_cons, List.flatten_cons, List.length_append, List.length_cons]
      omega
  have := h ts.reverse
  rw [List.length_reverse] at this
  exact this
theorem hdT_len1 {ts : List Th} {t : Th} (h : t ∈ ts) : (lvT t).length ≤ (hdT ts).length := by
  obtain ⟨a, b, rfl⟩ := List.append_of_mem h
  unfold hdT
  simp
  omega
def sp_leaves (K : PySem.W.Frag) (ns : List Int) : Sp := fun vs H Q E => match vs with
  | [v] => ∃ t, (ThAt K H t v ∧ (lvT t).length ≤ 40) ∧ (run (lvT t) [] = none → ∀ H', Same H H' → ExN K "NoTree" E H') ∧ (∀ l, run (lvT t) [] = some l → ∀ D H', Same H H' → H D = none → H' D = some (.lst (l.map V.str)) → Q (.ref D) H')
  | _ => False
theorem sc_leaves : FnScope ["tree", "names", "ahead", "part"] ["tree"] (defScope s_leaves) := ⟨rfl, rfl, rfl, by decide +kernel, rfl, by decide +kernel, by decide +kernel⟩
theorem ok_leaves (d : Dfn K mg "leaves" s_leaves ["tree"]) (er : Errs K mg c_LadderError c_NoBook c_NoFit c_NoGame c_NoNumber c_NoPlayer c_NoRow c_NoStretch c_NoTable c_NoTree c_NoWorth) (n_len : mg "len" = none) (n_isinstance : mg "isinstance" = none) (n_tuple : mg "tuple" = none) (v_MOST_NAMES : Cst mg "MOST_NAMES" (.int (8))) (c_is_name : Cal P w K mg base "is_name" ["thing"] 1 (sp_is_name K ns)) : Cal P w K mg base "leaves" ["tree"] 2 (sp_leaves K ns) := by
  refine d.calX (k := 1) sc_leaves (fun vs H Q E h => ?_) (fun f cdv A outer s H vs Q E hr h => ?_)
  · match vs, h with
    | [v], _ => rfl
  · match vs, h with
    | [v], ⟨t0, ⟨hT, l40⟩, ex, k⟩ =>
      refine ⟨_, (@pss_cons _ _ _ _ _ (@ps_set _ _ (1) _ _ _ _ sc_leaves.nd rfl (by first | exact Or.inl rfl | exact Or.inr rfl) (@pe_lst _ _ _ _ pa_nil) (by rfl) (by first | exact .inl rfl | exact .inr rfl | assumption)) (@pss_cons _ _ _ _ _ (@ps_set _ _ (2) _ _ _ _ sc_leaves.nd rfl (by first | exact Or.inl rfl | exact Or.inr rfl) (@pe_lst _ _ _ _ (@pa_cons _ _ _ _ _ (dv 0) pa_nil (by rfl))) (by rfl) (by first | exact .inl rfl | exact .inr rfl | assumption)) (@pss_cons _ _ _ _ _ (@s_while _ _ _ _ _ _ PassesOwn.leaving (@t_cmp _ _ _ _ _ _ _ _ (@o_neD _ hr.units) (dv 2) (@pe_lst _ _ _ _ pa_nil) (@nomark _ _ (by decide) (by decide))) (@pss_cons _ _ _ _ _ (@ps_set _ _ (3) _ _ _ _ sc_leaves.nd rfl (by first | exact Or.inl rfl | exact Or.inr rfl) (@pe_bm0 _ _ _ _ _ _ _ _ _ PySem.F.plainAttrs_list PySem.F.slot_list_pop PySem.F.type_list_pop mt_pop (dv 2) (by rfl) (by rfl)) (by rfl) (by first | exact .inl rfl | exact .inr rfl | assumption)) (@pss_one _ _ _ (@s_if _ _ _ _ _ _ _ _ (@L2.PW.pt _ _ _ (@w_and _ _ _ _ _ _ _ (@t_val _ _ _ (@pe_callB _ _ _ _ _ _ _ _ _ c_isi (by rfl) n_isinstance (by decide +kernel) (@pa_cons _ _ _ _ _ (dv 3) (@pa_cons _ _ _ _ _ (e_ty "tuple" (by rfl) n_tuple (by decide +kernel)) pa_nil (by rfl)) (by rfl)) (by decide) (by decide) (by rfl) (by rfl)) (by intro _; rfl)) (@pw_and1 _ _ _ _ (@t_cmp _ _ _ _ _ _ _ _ o_eq (@pe_callB _ _ _ _ _ _ _ _ _ c_len (by rfl) n_len (by decide +kernel) (@pa_cons _ _ _ _ _ (dv 3) pa_nil (by rfl)) (by decide) (by decide) (by rfl) (by rfl)) pe_int (@nomark _ _ (by decide) (by decide)))))) (@pss_one _ _ _ (@ps_expr _ _ _ _ (@pe_bm _ _ _ _ _ _ _ _ _ _ _ _ PySem.F.plainAttrs_list PySem.F.slot_list_extend PySem.F.type_list_extend mt_extend (dv 2) (@pa_cons _ _ _ _ _ (@e_lst _ _ _ _ (@pa_cons _ _ _ _ _ (@pe_ix _ _ _ _ _ _ _ i_tup (dv 3) pe_int (fun _ _ => rfl)) (@pa_cons _ _ _ _ _ (@pe_ix _ _ _ _ _ _ _ i_tup (dv 3) pe_int (fun _ _ => rfl)) pa_nil (by rfl)) (by rfl))) pa_nil (by rfl)) (by rfl) (by rfl) (by rfl) (by rfl) (by rfl)) (by rfl))) (@pss_one _ _ _ (@s_if _ _ _ _ _ _ _ _ (@L2.PW.pt _ _ _ (@w_and _ _ _ _ _ _ _ (@t_val _ _ _ (@e_call _ _ _ _ _ _ _ _ _ _ _ c_is_name hr (by decide) (by rfl) (@pa_cons _ _ _ _ _ (dv 3) pa_nil (by rfl)) (by decide) (by rfl) (by rfl)) (by intro _; rfl)) (@w_and _ _ _ _ _ _ _ (@t_cmp _ _ _ _ _ _ _ _ (show OpR _ _ (dNotInS K) from o_notin) (dv 3) (dv 1) (by with_unfolding_all rfl)) (@pw_and1 _ _ _ _ (@t_cmp _ _ _ _ _ _ _ _ o_lt (@pe_callB _ _ _ _ _ _ _ _ _ c_len (by rfl) n_len (by decide +kernel) (@pa_cons _ _ _ _ _ (dv 1) pa_nil (by rfl)) (by decide) (by decide) (by rfl) (by rfl)) (g_cst v_MOST_NAMES (by rfl)) (@nomark _ _ (by decide) (by decide))))))) (@pss_one _ _ _ (@ps_expr _ _ _ _ (@pe_bm _ _ _ _ _ _ _ _ _ _ _ _ PySem.F.plainAttrs_list PySem.F.slot_list_append PySem.F.type_list_append mt_append (dv 1) (@pa_cons _ _ _ _ _ (dv 3) pa_nil (by rfl)) (by rfl) (by rfl) (by rfl) (by rfl) (by rfl)) (by rfl))) (@pss_one _ _ _ (@ps_raise _ _ _ _ _ _ _ _ _ _ _ _ _ _ _ _ _ _ _ _ _ _ _ er.b_NoTree er.x_NoTree (by rfl) (by decide))))))))) (@pss_one _ _ _ (@ps_ret _ _ _ _ (dv 1)))))), ?_⟩
      refine ⟨by decide, fun D hD => ⟨(by show 1 ≤ sizeLine; decide), fun A hA => ?_⟩⟩
      have s1 : Same H (upd H D (.lst [])) := same_upd hD
      have hA0 : H A = none := none_back s1 hA
      have s2 : Same H (upd (upd H D (.lst [])) A (.lst [v])) := s1.trans (same_upd hA)
      have ne : A ≠ D := fun z => by
        rw [z, upd_same] at hA
        cases hA
      have eD : upd (upd H D (.lst [])) A (.lst [v]) D = some (.lst (([] : List Str).map V.str)) := by
        rw [upd_ne (Ne.symm ne)]
        exact upd_same
      have eA : upd (upd H D (.lst [])) A (.lst [v]) A = some (.lst [v]) := upd_same
      generalize upd (upd H D (.lst [])) A (.lst [v]) = H2 at s2 eD eA
      refine ⟨fun m σ H' => ∃ (dn : List Str) (vs : List V) (ts : List Th) (o3 : Option V), σ = [some v, some (.ref D), some (.ref A), o3] ∧ Same H H' ∧ H' D = some (.lst (dn.map V.str)) ∧ H' A = some (.lst vs) ∧ All2 (fun v t => ThAt K H t v) vs ts ∧ (run (hdT ts) dn = run (lvT t0) [] ∧ dn.length + (hdT ts).length ≤ 40) ∧ m = (ts.map szT).sum, ⟨_, [], [v], [t0], none, rfl, s2, eD, eA, .cons hT .nil, ⟨by simp [hdT], by simpa [hdT] using l40⟩, rfl⟩, ?_⟩
      clear s1 hA s2 eD eA
      rintro m σ H3 ⟨dn, vs, ts, o3, rfl, s3, eD, eA, a3, ⟨ht, hl8⟩, rfl⟩
      refine ⟨by decide, fun P hP => ?_⟩
      have s4 : Same H3 (upd H3 P (.lst [])) := same_upd hP
      have eP : upd H3 P (.lst []) P = some (.lst []) := upd_same
      generalize upd H3 P (.lst []) = H4 at s4 eP
      have eD := s4 _ _ eD
      have eA := s4 _ _ eA
      have s3 := s3.trans s4
      have a4 : All2 (fun v t => ThAt K H4 t v) vs ts := a3.imp fun v t r => th_up s3 _ _ r
      clear s4 hP
      obtain ⟨r1, r2, r3⟩ := rpl_th (n := 40) a4 fun t h => Nat.le_trans (hdT_len1 h) (by omega)
      refine ⟨_, _, .lst (SqL.of eA) r1, .lst (SqL.of eP) .nil, sh_th r2 r3 (by decide), rfl, ⟨fun h => ?_, fun h => ?_⟩⟩
      rotate_left
      · have e0 : ts = [] := by
          cases ts with
          | nil => rfl
          | cons t ts => rw [show PyData.eqv (.list ((t :: ts).map dtT)) (.list []) = false from eqv_nil (by simp)] at h; cases h
        subst e0
        exact k dn ht.symm D H4 s3 hD eD
      rcases nil_or_snoc ts with rfl | ⟨ts', t, rfl⟩
      · exact absurd h (by decide)
      obtain ⟨vs', y, rfl, a', hy⟩ := a2_unsnoc a3
      have hl : vs'.length = ts'.length := a'.len
      have hl' := hdT_len (ts' ++ [t])
      rw [List.length_append, List.length_singleton] at hl'
      rw [hdT_snoc] at ht hl8
      refine ⟨.inl ⟨rfl, _, SqL.of eA⟩, A, _, y, rfl, rfl, eA, by simp, ?_⟩
      rw [show (vs' ++ [y]).dropLast = vs' from List.dropLast_concat]
      have s5 : Same H (upd H4 A (.lst vs')) := same_app' s3 hA0
      have eD5 : upd H4 A (.lst vs') D = some (.lst (dn.map V.str)) := by rw [upd_ne (Ne.symm ne)]; exact eD
      have eA5 : upd H4 A (.lst vs') A = some (.lst vs') := upd_same
      generalize upd H4 A (.lst vs') = H5 at s5 eD5 eA5
      clear eA eD eP a4 h r1 r2 r3 s3
      cases t with
      | nd l r =>
        obtain ⟨p, va, vb, rfl, ep, ra, rb⟩ := hy
        have ep := s5 _ _ ep
        refine ⟨_, true, "tuple", ep, rfl, rfl, ⟨fun _ => ⟨_, .inr (SqT.of ep), ⟨fun _ => ?_, fun h => absurd h (by simp)⟩⟩, fun h => nb h⟩⟩
        refine ⟨.inl ⟨rfl, _, SqL.of eA5⟩, _, ep, _, ep, fun B H6 s6 e6 => ⟨A, B, vs', [vb, va], rfl, rfl, s6 _ _ eA5, e6, ?_, ((ts' ++ [r, l]).map szT).sum, ?_, dn, vs' ++ [vb, va], ts' ++ [r, l], _, rfl, same_app' (s5.trans s6) hA0, ?_, upd_same, ?_, ?_, rfl⟩⟩
        · show vs'.length + 2 ≤ sizeLine
          have p1 := lvT_pos (.nd l r)
          rw [List.length_append] at hl8
          exact Nat.le_trans (show vs'.length + 2 ≤ 100 by have := hdT_len ts'; omega) (by decide)
        · simp [szT]
          omega
        · rw [upd_ne (Ne.symm ne)]
          exact s6 _ _ eD5
        · exact a'.app (.cons rb (.cons ra .nil))
        · rw [show ts' ++ [r, l] = (ts' ++ [r]) ++ [l] by simp, hdT_snoc, hdT_snoc, ← List.append_assoc (lvT l)]
          exact ⟨ht, hl8⟩
      | lf u d =>
        obtain ⟨e, lo⟩ := hy
        subst e
        have lo := lo.up s5
        refine ask_no lo.np ⟨fun h => nb h, fun _ => ?_⟩
        refine ⟨lo.kd, lo.sl, fun H6 s6 => ⟨fun hnm => ?_, fun hno => ⟨fun h => nb h, fun _ => ?_⟩⟩⟩
        rotate_left
        · refine ex ?_ _ (s5.trans s6) _ er.y_NoTree
          rw [← ht]
          exact run_no hno
        obtain ⟨x, rfl⟩ := nm_str hnm
        have eD6 := s6 _ _ eD5
        have eA6 := s6 _ _ eA5
        have s6 := s5.trans s6
        refine ⟨_, .inl (SqL.of eD6), rfl, flat_strs _, ⟨fun hn => ?_, fun hn => ⟨fun h => nb h, fun _ => ?_⟩⟩⟩
        rotate_left
        · refine ex ?_ _ s6 _ er.y_NoTree
          rw [← ht]
          rw [in_strs] at hn
          exact run_in (by simpa using hn)
        have nin : x ∉ dn := by
          rw [in_strs] at hn
          simpa using hn
        refine ⟨_, .inl (SqL.of eD6), ⟨fun hl => ?_, fun hl => ?_⟩⟩
        rotate_left
        · refine ex ?_ _ s6 _ er.y_NoTree
          rw [← ht]
          have hl := of_decide_eq_false hl
          rw [List.length_map] at hl
          exact run_8 (by omega)
        have dl : dn.length < 8 := by
          have hl := of_decide_eq_true hl
          rw [List.length_map] at hl
          omega
        refine ⟨.inl ⟨rfl, _, SqL.of eD6⟩, D, _, _, rfl, rfl, eD6, ?_, (ts'.map szT).sum, ?_, dn ++ [x], vs', ts', _, rfl, same_app' s6 hD, ?_, ?_, a', ⟨?_, ?_⟩, rfl⟩
        · rw [List.length_map]
          exact Nat.lt_of_lt_of_le dl (by decide)
        · simp [szT]
        · rw [upd_same, List.map_append]
          rfl
        · rw [upd_ne ne]
          exact eA6
        · rw [← ht]
          exact (run_ok hnm nin dl).symm
        · rw [List.length_append, List.length_singleton]
          rw [List.length_append, show (lvT (Th.lf (V.str x) d)).length = 1 from rfl] at hl8
          omega
theorem run_some : ∀ {vs : List V} {ns l : List Str}, run vs ns = some l → ∃ m : List Str, vs = m.map V.str ∧ l = ns ++ m ∧ (∀ x ∈ m, isNm (.str x) = true) ∧ (ns.Nodup → l.Nodup) ∧ (ns.length ≤ 8 → l.length ≤ 8)
  | [], ns, l, h => by
    cases h
    exact ⟨[], rfl, (List.append_nil _).symm, fun x h => by simp at h, fun h => h, fun h => h⟩
  | v :: vs, ns, l, h => by
    cases c1 : isNm v with
    | false =>
      rw [run_no c1] at h
      cases h
    | true =>
      obtain ⟨x, rfl⟩ := nm_str c1
      by_cases c2 : x ∈ ns
      · rw [run_in c2] at h
        cases h
      by_cases c3 : ns.length < 8
      rotate_left
      · rw [run_8 c3] at h
        cases h
      rw [run_ok c1 c2 c3] at h
      obtain ⟨m, h1, h2, h3, h4, h5⟩ := run_some (ns := ns ++ [x]) h
      refine ⟨x :: m, by rw [h1]; rfl, by rw [h2]; simp, fun y hy => ?_, fun nd => h4 ?_, fun _ => h5 ?_⟩
      · rcases List.mem_cons.mp hy with rfl | hy
        · exact c1
        · exact h3 y hy
      · rw [List.nodup_append]
        refine ⟨nd, by simp, fun a ha b hb e => ?_⟩
        rw [List.mem_singleton.mp hb] at e
        exact c2 (e ▸ ha)
      · rw [List.length_append]
        show ns.length + 1 ≤ 8
        omega
theorem run_tr : ∀ {m ns : List Str}, (∀ x ∈ m, isNm (.str x) = true) → (ns ++ m).Nodup → (ns ++ m).length ≤ 8 → run (m.map V.str) ns = some (ns ++ m)
  | [], ns, _, _, _ => by
    rw [List.append_nil]
    rfl
  | x :: m, ns, h, nd, l8 => by
    have nin : x ∉ ns := fun c => (List.nodup_append.mp nd).2.2 x c x List.mem_cons_self rfl
    have e : ns ++ x :: m = (ns ++ [x]) ++ m := by simp
    rw [e] at nd l8
    rw [List.length_append, List.length_append, List.length_singleton] at l8
    rw [List.map_cons, run_ok (h x List.mem_cons_self) nin (by omega), run_tr (fun y hy => h y (List.mem_cons_of_mem _ hy)) nd (by rw [List.length_append, List.length_append, List.length_singleton]; exact l8), e]
def thO : Tr → Th
  | .leaf s => .lf (.str s) (.str s)
  | .node l r => .nd (thO l) (thO r)
theorem lvT_O : ∀ t, lvT (thO t) = (lv t).map V.str
  | .leaf _ => rfl
  | .node l r => by
    show lvT (thO l) ++ lvT (thO r) = (lv l ++ lv r).map V.str
    rw [lvT_O l, lvT_O r, List.map_append]
theorem lf_str {K : PySem.W.Frag} {H : Hp} {s : Str} (h : s.length ≤ 1000) (h' : PyData.strOk s = true) : LfOk K H (.str s) (.str s) := ⟨True.intro, .inr ⟨True.intro, rfl⟩, fun z e => by cases e; exact h, .str s, h', Nat.zero_le _⟩
theorem nm_len {x : Str} (h : Nm x) : x.length ≤ 8 := by
  have := h.len8
  rw [co_len] at this
  exact this
theorem th_O {K : PySem.W.Frag} {H : Hp} : ∀ (t : Tr) (v : V), TrAt H t v → (∀ x ∈ lv t, Nm x) → ThAt K H (thO t) v
  | .leaf s, v, h, n => by
    have h : v = .str s := h
    subst h
    have n := n s (List.mem_singleton.mpr rfl)
    exact ⟨rfl, lf_str (Nat.le_trans (nm_len n) (by decide)) (nm_ok n)⟩
  | .node l r, v, ⟨p, a, b, e, h, h1, h2⟩, n => ⟨p, a, b, e, h, th_O l a h1 fun x hx => n x (List.mem_append_left _ hx), th_O r b h2 fun x hx => n x (List.mem_append_right _ hx)⟩
def isSep (c : Nat) : Bool := c == 40 || c == 41 || c == 32
def isLt (c : Nat) : Bool := decide (97 ≤ c) && decide (c < 123)
def wd (w : List Nat) : List (List Nat) := if w = [] then [] else [w]
def words : List Nat → List Nat → List (List Nat)
  | [], w => wd w
  | c :: cs, w => if isSep c then wd w ++ [c] :: words cs [] else words cs (w ++ [c])
theorem wd_flat (w : List Nat) : (wd w).flatten = w := by
  unfold wd
  split
  · rename_i h
    rw [h]
    rfl
  · simp
theorem words_flat : ∀ (cs w : List Nat), (words cs w).flatten = w ++ cs
  | [], w => by
    show (wd w).flatten = _
    rw [wd_flat, List.append_nil]
  | c :: cs, w => by
    unfold words
    split
    · rw [List.flatten_append, wd_flat, List.flatten_cons, words_flat]
      rfl
    · rw [words_flat]
      simp
def showT : Tr → List Nat
  | .leaf s => co s
  | .node l r => 40 :: (showT l ++ 32 :: (showT r ++ [41]))
def toks : Tr → List (List Nat)
  | .leaf s => [co s]
  | .node l r => [40] :: (toks l ++ [32] :: (toks r ++ [[41]]))
theorem toks_flat : ∀ t, (toks t).flatten = showT t
  | .leaf s => by simp [toks, showT]
  | .node l r => by
    simp only [toks, showT, List.flatten_cons, List.flatten_append, List.flatten_nil, toks_flat l, toks_flat r]
    simp
def dpT : Tr → Nat
  | .leaf _ => 0
  | .node l r => max (dpT l) (dpT r) + 1
def isN (w : List Nat) : Bool := decide (1 ≤ w.length) && decide (w.length ≤ 8) && w.all isLt
theorem isN_ne {w : List Nat} (h : isN w = true) : w ≠ [] := by
  rintro rfl
  exact absurd h (by decide)
theorem isN_lt {w : List Nat} (h : isN w = true) : ∀ c ∈ w, isLt c = true := by
  unfold isN at h
  rw [Bool.and_eq_true] at h
  exact List.all_eq_true.mp h.2
theorem lt_sep {c : Nat} (h : isLt c = true) : isSep c = false := by
  unfold isLt at h
  rw [Bool.and_eq_true] at h
  have h1 := of_decide_eq_true h.1
  unfold isSep
  rw [show (c == 40) = false from beq_false_of_ne (by omega), show (c == 41) = false from beq_false_of_ne (by omega), show (c == 32) = false from beq_false_of_ne (by omega)]
  rfl
def Hd (p : Nat → Bool) (cs : List Nat) : Prop := ∀ c r, cs = c :: r → p c = true
theorem words_letters : ∀ {x cs w : List Nat}, (∀ c ∈ x, isSep c = false) → words (x ++ cs) w = words cs (w ++ x)
  | [], cs, w, _ => by simp
  | c :: x, cs, w, h => by
    rw [List.cons_append]
    conv => lhs; unfold words
    rw [if_neg (by rw [h c List.mem_cons_self]; decide)]
    rw [words_letters fun d hd => h d (List.mem_cons_of_mem _ hd)]
    have e : w ++ [c] ++ x = w ++ c :: x := by simp
    rw [e]
theorem words_sep {c : Nat} {cs w : List Nat} (h : isSep c = true) : words (c :: cs) w = wd w ++ [c] :: words cs [] := by
  conv => lhs; unfold words
  rw [if_pos h]
theorem words_end {x rest : List Nat} (hx : x ≠ []) (hr : Hd isSep rest) : words rest x = [x] ++ words rest [] := by
  have e : wd x = [x] := if_neg hx
  cases rest with
  | nil =>
    show wd x = [x] ++ wd []
    rw [e]
    rfl
  | cons c r =>
    rw [words_sep (hr c r rfl), words_sep (hr c r rfl), e]
    rfl
theorem words_show : ∀ (t : Tr) {rest : List Nat}, (∀ x ∈ lv t, isN (co x) = true) → Hd isSep rest → words (showT t ++ rest) [] = toks t ++ words rest []
  | .leaf s, rest, h, hr => by
    have n := h s (List.mem_singleton.mpr rfl)
    show words (co s ++ rest) [] = [co s] ++ words rest []
    rw [words_letters fun c hc => lt_sep (isN_lt n c hc), List.nil_append]
    exact words_end (isN_ne n) hr
  | .node l r, rest, h, hr => by
    have hl : ∀ x ∈ lv l, isN (co x) = true := fun x hx => h x (List.mem_append_left _ hx)
    have hr' : ∀ x ∈ lv r, isN (co x) = true := fun x hx => h x (List.mem_append_right _ hx)
    have e : showT (.node l r) ++ rest = 40 :: (showT l ++ 32 :: (showT r ++ 41 :: rest)) := by simp [showT]
    rw [e, words_sep rfl, words_show l hl (fun c r e => by cases e; rfl), words_sep rfl, words_show r hr' (fun c r e => by cases e; rfl), words_sep rfl]
    simp [toks, wd]
inductive Wt where
  | tree (d : Nat)
  | sg (c : Nat)
def auto : List (List Nat) → List Wt → List (List Nat) → Bool
  | [], stk, ns => stk.isEmpty && decide (ns.length ≤ 8)
  | _ :: _, [], _ => false
  | w :: ws, .tree d :: stk, ns => if w = [40] ∧ d < 7 then auto ws (.tree (d + 1) :: .sg 32 :: .tree (d + 1) :: .sg 41 :: stk) ns else if isN w = true ∧ w ∉ ns then auto ws stk (ns ++ [w]) else false
  | w :: ws, .sg c :: stk, ns => if w = [c] then auto ws stk ns else false
def nsT (t : Tr) : List (List Nat) := (lv t).map co
theorem auto_sound : ∀ (n : Nat) {ws : List (List Nat)} {stk : List Wt} {ns : List (List Nat)} {d : Nat}, ws.length ≤ n → d ≤ 7 → ns.Nodup → auto ws (.tree d :: stk) ns = true → ∃ t rest, ws = toks t ++ rest ∧ dpT t + d ≤ 7 ∧ (∀ x ∈ lv t, isN (co x) = true) ∧ (ns ++ nsT t).Nodup ∧ auto rest stk (ns ++ nsT t) = true
  | _, [], stk, ns, d, _, _, _, h => by
    unfold auto at h
    simp at h
  | 0, w :: ws, _, _, _, hl, _, _, _ => by simp at hl
  | n + 1, w :: ws, stk, ns, d, hl, hd, nd, h => by
    have hL : ws.length ≤ n := by simpa using hl
    clear hl
    unfold auto at h
    split at h
    · rename_i c
      obtain ⟨rfl, d7⟩ := c
      obtain ⟨l, r1, e1, dl, nl, nd1, a1⟩ := auto_sound n hL (by omega) nd h
      cases r1 with
      | nil =>
        unfold auto at a1
        simp at a1
      | cons w1 r1 =>
        unfold auto at a1
        split at a1
        · rename_i c1
          subst c1
          have l1 : r1.length ≤ n := by
            rw [e1, List.length_append, List.length_cons] at hL
            omega
          obtain ⟨r, r2, e2, dr, nr, nd2, a2⟩ := auto_sound n l1 (by omega) nd1 a1
          cases r2 with
          | nil =>
            unfold auto at a2
            simp at a2
          | cons w2 r2 =>
            unfold auto at a2
            split at a2
            · rename_i c2
              subst c2
              refine ⟨.node l r, r2, by rw [e1, e2]; simp [toks], ?_, fun x hx => ?_, ?_, ?_⟩
              · show max (dpT l) (dpT r) + 1 + d ≤ 7
                omega
              · rcases List.mem_append.mp hx with hx | hx
                · exact nl x hx
                · exact nr x hx
              · rw [show nsT (.node l r) = nsT l ++ nsT r from List.map_append, ← List.append_assoc]
                exact nd2
              · rw [show nsT (.node l r) = nsT l ++ nsT r from List.map_append, ← List.append_assoc]
                exact a2
            · cases a2
        · cases a1
    · split at h
      · rename_i c
        obtain ⟨c1, c2⟩ := c
        have e : nsT (.leaf ⟨w.toArray⟩) = [w] := rfl
        refine ⟨.leaf ⟨w.toArray⟩, ws, rfl, by show 0 + d ≤ 7; omega, fun x hx => ?_, ?_, by rw [e]; exact h⟩
        · rw [List.mem_singleton.mp hx]
          exact c1
        · rw [e, List.nodup_append]
          exact ⟨nd, by simp, fun a ha b hb z => c2 (by rw [← List.mem_singleton.mp hb, ← z]; exact ha)⟩
      · cases h
theorem auto_done : ∀ (t : Tr) {rest : List (List Nat)} {stk : List Wt} {ns : List (List Nat)} {d : Nat}, dpT t + d ≤ 7 → (∀ x ∈ lv t, isN (co x) = true) → (ns ++ nsT t).Nodup → auto (toks t ++ rest) (.tree d :: stk) ns = auto rest stk (ns ++ nsT t)
  | .leaf s, rest, stk, ns, d, hd, hn, nd => by
    have n := hn s (List.mem_singleton.mpr rfl)
    show auto (co s :: rest) (.tree d :: stk) ns = auto rest stk (ns ++ [co s])
    have nd : (ns ++ [co s]).Nodup := nd
    have nin : co s ∉ ns := fun c => (List.nodup_append.mp nd).2.2 _ c _ (List.mem_singleton.mpr rfl) rfl
    conv => lhs; unfold auto
    rw [if_neg, if_pos ⟨n, nin⟩]
    rintro ⟨z, _⟩
    rw [z] at n
    exact absurd n (by decide)
  | .node l r, rest, stk, ns, d, hd, hn, nd => by
    have hd : max (dpT l) (dpT r) + 1 + d ≤ 7 := hd
    have e : nsT (.node l r) = nsT l ++ nsT r := List.map_append
    rw [e, ← List.append_assoc] at nd ⊢
    have e2 : toks (.node l r) ++ rest = [40] :: (toks l ++ [32] :: (toks r ++ [41] :: rest)) := by simp [toks]
    rw [e2]
    conv => lhs; unfold auto
    rw [if_pos ⟨rfl, by omega⟩, auto_done l (by omega) (fun x hx => hn x (List.mem_append_left _ hx)) (List.nodup_append.mp nd).1]
    conv => lhs; unfold auto
    rw [if_pos rfl, auto_done r (by omega) (fun x hx => hn x (List.mem_append_right _ hx)) nd]
    conv => lhs; unfold auto
    rw [if_pos rfl]
structure VT (t : Tr) : Prop where
  dp : dpT t ≤ 7
  nm : ∀ x ∈ lv t, isN (co x) = true
  nd : (nsT t).Nodup
  len : (lv t).length ≤ 8
theorem law_iff {cs : List Nat} : auto (words cs []) [.tree 0] [] = true ↔ ∃ t, cs = showT t ∧ VT t := by
  constructor
  · intro h
    obtain ⟨t, rest, e, dt, nt, nd, a⟩ := auto_sound _ (Nat.le_refl _) (by decide) List.nodup_nil h
    cases rest with
    | cons w ws =>
      unfold auto at a
      cases a
    | nil =>
      unfold auto at a
      rw [List.append_nil] at e
      refine ⟨t, ?_, ⟨by omega, nt, nd, ?_⟩⟩
      · rw [← toks_flat, ← e, words_flat]
        rfl
      · have a : (true && decide (([] ++ nsT t).length ≤ 8)) = true := a
        have a := of_decide_eq_true (Bool.and_eq_true _ _ |>.mp a).2
        rw [List.nil_append, nsT, List.length_map] at a
        exact a
  · rintro ⟨t, rfl, v⟩
    have e := words_show t (rest := []) v.nm (fun c r e => by cases e)
    rw [List.append_nil] at e
    rw [e, show words [] [] = [] from rfl, auto_done t (by have := v.dp; omega) v.nm (by rw [List.nil_append]; exact v.nd)]
    show (true && decide (([] ++ nsT t).length ≤ 8)) = true
    rw [List.nil_append, nsT, List.length_map, decide_eq_true v.len]
    rfl
def lts (cs : List Nat) : List Nat := cs.takeWhile isLt
def aft (cs : List Nat) : List Nat := cs.dropWhile isLt
def readP : Nat → List Nat → Option (Tr × List Nat)
  | 0, cs => if cs.head? = some 40 then none else some (.leaf ⟨(lts cs).toArray⟩, aft cs)
  | k + 1, cs => if cs.head? = some 40 then
      (match readP k cs.tail with
      | none => none
      | some (l, r1) => if r1.head? = some 32 then
          (match readP k r1.tail with
          | none => none
          | some (r, r2) => if r2.head? = some 41 then some (.node l r, r2.tail) else none) else none)
    else some (.leaf ⟨(lts cs).toArray⟩, aft cs)
theorem lts_aft (cs : List Nat) : lts cs ++ aft cs = cs := List.takeWhile_append_dropWhile
theorem head_tail {cs : List Nat} {c : Nat} (h : cs.head? = some c) : cs = c :: cs.tail := by
  cases cs with
  | nil => cases h
  | cons d r =>
    cases h
    rfl
theorem readP_sound : ∀ (k : Nat) {cs : List Nat} {t : Tr} {rest : List Nat}, readP k cs = some (t, rest) → cs = showT t ++ rest ∧ dpT t ≤ k
  | 0, cs, t, rest, h => by
    unfold readP at h
    split at h
    · cases h
    · cases h
      exact ⟨(lts_aft cs).symm, Nat.le_refl _⟩
  | k + 1, cs, t, rest, h => by
    unfold readP at h
    split at h
    · rename_i c
      split at h
      · cases h
      · rename_i l r1 e1
        split at h
        · rename_i c1
          split at h
          · cases h
          · rename_i r r2 e2
            split at h
            · rename_i c2
              cases h
              obtain ⟨a1, a2⟩ := readP_sound k e1
              obtain ⟨b1, b2⟩ := readP_sound k e2
              refine ⟨?_, ?_⟩
              · rw [head_tail c, a1, head_tail c1, b1, head_tail c2]
                simp [showT]
              · show max (dpT l) (dpT r) + 1 ≤ k + 1
                omega
            · cases h
        · cases h
    · cases h
      exact ⟨(lts_aft cs).symm, Nat.zero_le _⟩
theorem lts_app {x rest : List Nat} (h : ∀ c ∈ x, isLt c = true) (hr : Hd (fun c => !isLt c) rest) : lts (x ++ rest) = x ∧ aft (x ++ rest) = rest := by
  unfold lts aft
  rw [List.takeWhile_append_of_pos h, List.dropWhile_append_of_pos h]
  cases rest with
  | nil => simp
  | cons c r =>
    have := hr c r rfl
    have : isLt c = false := by simpa using this
    simp [this]
theorem readP_done : ∀ (t : Tr) {k : Nat} {rest : List Nat}, dpT t ≤ k → (∀ x ∈ lv t, isN (co x) = true) → Hd (fun c => !isLt c) rest → readP k (showT t ++ rest) = some (t, rest)
  | .leaf s, k, rest, _, hn, hr => by
    have n := hn s (List.mem_singleton.mpr rfl)
    obtain ⟨a, b⟩ := lts_app (isN_lt n) hr
    have hd : ¬ (co s ++ rest).head? = some 40 := fun c => by
      cases e : co s with
      | nil => exact isN_ne n e
      | cons d r =>
        rw [e] at c
        have z : d = 40 := by simpa using c
        have := isN_lt n d (by rw [e]; exact List.mem_cons_self)
        rw [z] at this
        exact absurd this (by decide)
    have e : (⟨(lts (co s ++ rest)).toArray⟩ : Str) = s := by rw [a]; rfl
    show readP k (co s ++ rest) = some (.leaf s, rest)
    cases k with
    | zero =>
      unfold readP
      rw [if_neg hd, e, b]
    | succ k =>
      unfold readP
      rw [if_neg hd, e, b]
  | .node l r, 0, rest, hk, _, _ => by
    have hk : max (dpT l) (dpT r) + 1 ≤ 0 := hk
    omega
  | .node l r, k + 1, rest, hk, hn, hr => by
    have hk : max (dpT l) (dpT r) + 1 ≤ k + 1 := hk
    have e : showT (.node l r) ++ rest = 40 :: (showT l ++ 32 :: (showT r ++ 41 :: rest)) := by simp [showT]
    have i1 := readP_done l (k := k) (rest := 32 :: (showT r ++ 41 :: rest)) (by omega) (fun x hx => hn x (List.mem_append_left _ hx)) (fun c r e => by cases e; rfl)
    have i2 := readP_done r (k := k) (rest := 41 :: rest) (by omega) (fun x hx => hn x (List.mem_append_right _ hx)) (fun c r e => by cases e; rfl)
    rw [e]
    unfold readP
    rw [if_pos (show (40 :: (showT l ++ 32 :: (showT r ++ 41 :: rest))).head? = some 40 from rfl)]
    simp only [List.tail_cons]
    rw [i1]
    simp only [List.head?_cons, List.tail_cons, if_true]
    rw [i2]
    simp
theorem r_leaf {cs : List Nat} (h : ¬ cs.head? = some 40) : ∀ k, readP k cs = some (.leaf ⟨(lts cs).toArray⟩, aft cs)
  | 0 => by
    unfold readP
    rw [if_neg h]
  | k + 1 => by
    unfold readP
    rw [if_neg h]
theorem r_zero {cs : List Nat} (h : cs.head? = some 40) : readP 0 cs = none := by
  unfold readP
  rw [if_pos h]
section
variable {k : Nat} {cs r1 r2 : List Nat} {l r : Tr}
theorem r_none1 (h : cs.head? = some 40) (h1 : readP k cs.tail = none) : readP (k + 1) cs = none := by
  unfold readP
  rw [if_pos h, h1]
theorem r_none2 (h : cs.head? = some 40) (h1 : readP k cs.tail = some (l, r1)) (h2 : ¬ r1.head? = some 32) : readP (k + 1) cs = none := by
  unfold readP
  rw [if_pos h, h1]
  simp only [if_neg h2]
theorem r_none3 (h : cs.head? = some 40) (h1 : readP k cs.tail = some (l, r1)) (h2 : r1.head? = some 32) (h3 : readP k r1.tail = none) : readP (k + 1) cs = none := by
  unfold readP
  rw [if_pos h, h1]
  simp only [if_pos h2]
  rw [h3]
theorem r_none4 (h : cs.head? = some 40) (h1 : readP k cs.tail = some (l, r1)) (h2 : r1.head? = some 32) (h3 : readP k r1.tail = some (r, r2)) (h4 : ¬ r2.head? = some 41) : readP (k + 1) cs = none := by
  unfold readP
  rw [if_pos h, h1]
  simp only [if_pos h2]
  rw [h3]
  simp only [if_neg h4]
theorem r_ok (h : cs.head? = some 40) (h1 : readP k cs.tail = some (l, r1)) (h2 : r1.head? = some 32) (h3 : readP k r1.tail = some (r, r2)) (h4 : r2.head? = some 41) : readP (k + 1) cs = some (.node l r, r2.tail) := by
  unfold readP
  rw [if_pos h, h1]
  simp only [if_pos h2]
  rw [h3]
  simp only [if_pos h4]
end
theorem sh_len : ∀ t, (∀ x ∈ lv t, Nm x) → (showT t).length + 3 ≤ 11 * (lv t).length
  | .leaf s, h => by
    have := (h s (List.mem_singleton.mpr rfl)).len8
    show (co s).length + 3 ≤ 11 * 1
    omega
  | .node l r, h => by
    have a := sh_len l fun x hx => h x (List.mem_append_left _ hx)
    have b := sh_len r fun x hx => h x (List.mem_append_right _ hx)
    show (40 :: (showT l ++ 32 :: (showT r ++ [41]))).length + 3 ≤ 11 * (lv l ++ lv r).length
    simp only [List.length_cons, List.length_append, List.length_nil]
    omega
theorem sh_short {t : Tr} (h : TOk t) : (showT t).length ≤ 100 := by
  have := sh_len t h.nm
  have := h.len
  omega
theorem co40 : co ("(" : Str) = [40] := by decide +kernel
theorem co32 : co (" " : Str) = [32] := by decide +kernel
theorem co41 : co (")" : Str) = [41] := by decide +kernel
theorem sl1 {x : Str} {n : Nat} (h : n ≤ x.length) : co (Txt.slice x (some (n : Int)) (some ((n : Int) + 1))) = ((co x).drop n).take 1 := by
  by_cases h' : n + 1 ≤ x.length
  · have e := co_cut (x := x) (i := n) (j := n + 1) h h'
    rw [show n + 1 - n = 1 by omega] at e
    exact e
  · have hn : n = x.length := by omega
    rw [co_slice, HT.sIx_nat, show (n : Int) + 1 = ((n + 1 : Nat) : Int) by omega, HT.sIx_nat, Nat.min_eq_left h, Nat.min_eq_right (by omega : x.length ≤ n + 1)]
    rw [show x.length - n = 0 by omega, List.drop_eq_nil_of_le (by rw [co_len]; omega)]
    rfl
def spR_show_part : Nat → PySem.W.Frag → List Int → Sp
  | 0, _, _ => fun _ _ _ _ => False
  | d + 1, K, ns => fun vs H Q _ => match vs with
    | [v] => ∃ t, (TrAt H t v ∧ TOk t ∧ (lv t).length ≤ d + 1) ∧ ∀ x, co x = showT t → Q (.str x) H
    | _ => False
def sp_show_part (K : PySem.W.Frag) (ns : List Int) : Sp := spR_show_part 8 K ns
theorem sc_show_part : FnScope ["part", "one", "other"] ["part"] (defScope s_show_part) := ⟨rfl, rfl, rfl, by decide +kernel, rfl, by decide +kernel, by decide +kernel⟩
theorem okS_show_part (d : Dfn K mg "show_part" s_show_part ["part"]) (er : Errs K mg c_LadderError c_NoBook c_NoFit c_NoGame c_NoNumber c_NoPlayer c_NoRow c_NoStretch c_NoTable c_NoTree c_NoWorth) (n_isinstance : mg "isinstance" = none) (n_str : mg "str" = none)    (dd : Nat) (c_show_part : Cal P w K mg base "show_part" ["part"] (1 + dd) (spR_show_part dd K ns)) : Cal P w K mg base "show_part" ["part"] (1 + (dd + 1)) (spR_show_part (dd + 1) K ns) := by
  refine d.cal (k := 1 + dd) sc_show_part (fun vs H Q E h => ?_) (fun f cdv A outer s H vs Q E hr h => ?_)
  · match vs, h with
    | [v], _ => rfl
  · match vs, h with
    | [v], ⟨t, ⟨hT, ok, ld⟩, q⟩ =>
      refine ⟨_, (@pss_cons _ _ _ _ _ (@s_if _ _ _ _ _ _ _ _ (@t_val _ _ _ (@pe_callB _ _ _ _ _ _ _ _ _ c_isi (by rfl) n_isinstance (by decide +kernel) (@pa_cons _ _ _ _ _ (dv 0) (@pa_cons _ _ _ _ _ (e_ty "str" (by rfl) n_str (by decide +kernel)) pa_nil (by rfl)) (by rfl)) (by decide) (by decide) (by rfl) (by rfl)) (by intro _; rfl)) (@pss_one _ _ _ (@ps_ret _ _ _ _ (dv 0))) pss_nil) (@pss_cons _ _ _ _ _ (@ps_set _ _ (1) _ _ _ _ sc_show_part.nd rfl (by first | exact Or.inl rfl | exact Or.inr rfl) (@e_call _ _ _ _ _ _ _ _ _ _ _ c_show_part hr (by omega) (by rfl) (@pa_cons _ _ _ _ _ (@pe_ix _ _ _ _ _ _ _ i_tup (dv 0) pe_int (fun _ _ => rfl)) pa_nil (by rfl)) (by decide) (by rfl) (by rfl)) (by rfl) (by first | exact .inl rfl | exact .inr rfl | assumption)) (@pss_cons _ _ _ _ _ (@ps_set _ _ (2) _ _ _ _ sc_show_part.nd rfl (by first | exact Or.inl rfl | exact Or.inr rfl) (@e_call _ _ _ _ _ _ _ _ _ _ _ c_show_part hr (by omega) (by rfl) (@pa_cons _ _ _ _ _ (@pe_ix _ _ _ _ _ _ _ i_tup (dv 0) pe_int (fun _ _ => rfl)) pa_nil (by rfl)) (by decide) (by rfl) (by rfl)) (by rfl) (by first | exact .inl rfl | exact .inr rfl | assumption)) (@pss_one _ _ _ (@ps_ret _ _ _ _ (@e_fstr _ _ _ _ _ _ (@pj_str _ _ _ _ _ _ (by decide +kernel) (@pj_val _ _ _ _ _ _ (dv 1) (@pj_str _ _ _ _ _ _ (by decide +kernel) (@pj_val _ _ _ _ _ _ (dv 2) (@pj_str _ _ _ _ _ _ (by decide +kernel) pj_nil))))))))))), ?_⟩
      cases t with
      | leaf s =>
        have hT : v = .str s := hT
        subst hT
        exact ⟨true, rfl, ⟨fun _ => q s rfl, fun h => nb h⟩⟩
      | node l r =>
        obtain ⟨p, a, b, rfl, ep, ra, rb⟩ := hT
        have hl := lv_pos l
        have hr' := lv_pos r
        have ld : (lv l ++ lv r).length ≤ dd + 1 := ld
        rw [List.length_append] at ld
        cases dd with
        | zero => omega
        | succ d' =>
          refine ⟨_, false, "tuple", ep, rfl, rfl, ⟨fun h => nb h, fun _ => ?_⟩⟩
          refine ⟨_, ep, l, ⟨ra, ok.left, by omega⟩, fun x hx => ⟨_, ep, r, ⟨rb, ok.right, by omega⟩, fun y hy => ?_⟩⟩
          have zx : (co x).length ≤ 100 := by rw [hx]; exact sh_short ok.left
          have zy : (co y).length ≤ 100 := by rw [hy]; exact sh_short ok.right
          have zz : ∀ {z : Str}, (co z).length ≤ 1000 → z.length ≤ sizeLine := fun {z} h => by
            rw [co_len] at h
            exact Nat.le_trans h (by decide)
          have e0 : co Str.empty = [] := rfl
          have e1 : co (Str.ofString "(") = [40] := co40
          have e2 : co (Str.ofString " ") = [32] := co32
          have e3 : co (Str.ofString ")") = [41] := co41
          refine ⟨zz ?_, zz ?_, zz ?_, zz ?_, zz ?_, zz ?_, zz ?_, zz ?_, q _ ?_⟩ <;> simp only [co_app, e0, e1, e2, e3, List.length_append, List.length_cons, List.length_nil, hx, hy, showT] <;> first
            | (rw [hx] at zx; rw [hy] at zy; omega)
            | simp
theorem okR_show_part (d : Dfn K mg "show_part" s_show_part ["part"]) (er : Errs K mg c_LadderError c_NoBook c_NoFit c_NoGame c_NoNumber c_NoPlayer c_NoRow c_NoStretch c_NoTable c_NoTree c_NoWorth) (n_isinstance : mg "isinstance" = none) (n_str : mg "str" = none)   :  ∀ dd : Nat, Cal P w K mg base "show_part" ["part"] (1 + dd) (spR_show_part dd K ns)
  | 0 => d.cal (k := 0) sc_show_part (fun vs H Q E h => False.elim h) (fun f cdv A outer s H vs Q E hr h => False.elim h)
  | dd + 1 => okS_show_part d er n_isinstance n_str dd (okR_show_part d er n_isinstance n_str dd)
theorem ok_show_part (d : Dfn K mg "show_part" s_show_part ["part"]) (er : Errs K mg c_LadderError c_NoBook c_NoFit c_NoGame c_NoNumber c_NoPlayer c_NoRow c_NoStretch c_NoTable c_NoTree c_NoWorth) (n_isinstance : mg "isinstance" = none) (n_str : mg "str" = none)   : Cal P w K mg base "show_part" ["part"] 9 (sp_show_part K ns) := okR_show_part d er n_isinstance n_str 8
theorem lt_abc {c : Nat} : isLt c = true ↔ c ∈ co abc := by
  rw [abc_mem]
  unfold isLt
  rw [Bool.and_eq_true, decide_eq_true_iff, decide_eq_true_iff]
theorem sl_head {x : Str} {n c : Nat} {s : Str} (hn : n ≤ x.length) (hs : co s = [c]) : Txt.slice x (some (n : Int)) (some ((n : Int) + 1)) = s ↔ ((co x).drop n).head? = some c := by
  have es := sl1 hn
  constructor
  · intro e
    rw [e, hs] at es
    cases h : (co x).drop n with
    | nil =>
      rw [h] at es
      cases es
    | cons d r =>
      rw [h, List.take_succ_cons, List.take_zero] at es
      cases es
      rfl
  · intro h
    refine co_inj ?_
    rw [es, hs, head_tail h]
    rfl
def sp_check_sign (K : PySem.W.Frag) (ns : List Int) : Sp := fun vs H Q E => match vs with
  | [.str x, .int k, .str s] => ∃ (n : Nat) (c : Nat), (k = n ∧ x.length ≤ 1000 ∧ n ≤ x.length ∧ co s = [c]) ∧ (((co x).drop n).head? = some c → Q .non H) ∧ (¬ ((co x).drop n).head? = some c → ∀ H', Same H H' → ExN K "NoTree" E H')
  | _ => False
theorem sc_check_sign : FnScope ["text", "at", "sign"] ["text", "at", "sign"] (defScope s_check_sign) := ⟨rfl, rfl, rfl, by decide +kernel, rfl, by decide +kernel, by decide +kernel⟩
theorem ok_check_sign (d : Dfn K mg "check_sign" s_check_sign ["text", "at", "sign"]) (er : Errs K mg c_LadderError c_NoBook c_NoFit c_NoGame c_NoNumber c_NoPlayer c_NoRow c_NoStretch c_NoTable c_NoTree c_NoWorth)    : Cal P w K mg base "check_sign" ["text", "at", "sign"] 1 (sp_check_sign K ns) := by
  refine d.calX (k := 0) sc_check_sign (fun vs H Q E h => ?_) (fun f cdv A outer s H vs Q E hr h => ?_)
  · match vs, h with
    | [.str x, .int k, .str s], _ => rfl
  · match vs, h with
    | [.str x, .int k, .str s], ⟨n, c, ⟨hk, hz, hn, hs'⟩, q, ex⟩ =>
      refine ⟨_, (@pss_one _ _ _ (@s_if _ _ _ _ _ _ _ _ (@t_cmp _ _ _ _ _ _ _ _ o_ne (@pe_slice _ _ _ _ _ _ _ _ _ _ sl_str (dv 0) (po_some (dv 1)) (po_some (pe_op o_add (dv 1) pe_int))) (dv 2) (@nomark _ _ (by decide) (by decide))) (@pss_one _ _ _ (@ps_raise _ _ _ _ _ _ _ _ _ _ _ _ _ _ _ _ _ _ _ _ _ _ _ er.b_NoTree er.x_NoTree (by rfl) (by decide))) pss_nil)), ?_⟩
      subst hk
      refine ⟨_, rfl, _, rfl, Nat.le_trans hz (by decide), ⟨fun h => ?_, fun h => q ?_⟩⟩
      · have h : ¬ Txt.slice x (some (n : Int)) (some ((n : Int) + 1)) = s := by simpa using h
        exact ex (fun z => h ((sl_head hn hs').mpr z)) _ (Same.refl _) _ er.y_NoTree
      · have h : Txt.slice x (some (n : Int)) (some ((n : Int) + 1)) = s := by simpa using h
        exact (sl_head hn hs').mp h
theorem takeW {cs : List Nat} : ∀ c ∈ lts cs, isLt c = true := fun c hc => by
  unfold lts at hc
  induction cs with
  | nil => cases hc
  | cons d r ih =>
    rw [List.takeWhile_cons] at hc
    split at hc
    · rename_i h
      rcases List.mem_cons.mp hc with rfl | hc
      · exact h
      · exact ih hc
    · cases hc
theorem dropW {cs : List Nat} {c : Nat} (h : (aft cs).head? = some c) : ¬ isLt c = true := by
  unfold aft at h
  induction cs with
  | nil => cases h
  | cons d r ih =>
    rw [List.dropWhile_cons] at h
    split at h
    · exact ih h
    · rename_i hd
      cases h
      exact hd
def sp_read_word (K : PySem.W.Frag) (ns : List Int) : Sp := fun vs H Q _ => match vs with
  | [.str x, .int k] => ∃ (n : Nat) (u v : List Nat), (k = n ∧ x.length ≤ 1000 ∧ n ≤ x.length ∧ (co x).drop n = u ++ v ∧ (∀ c ∈ u, c ∈ co abc) ∧ ∀ c, v.head? = some c → c ∉ co abc) ∧
    ∀ T y H', Same H H' → H' T = some (.tup [.str y, .int ((n + u.length : Nat) : Int)]) → co y = u → Q (.ref T) H'
  | _ => False
theorem sc_read_word : FnScope ["text", "start", "end"] ["text", "start"] (defScope s_read_word) := ⟨rfl, rfl, rfl, by decide +kernel, rfl, by decide +kernel, by decide +kernel⟩
theorem ok_read_word (d : Dfn K mg "read_word" s_read_word ["text", "start"]) (er : Errs K mg c_LadderError c_NoBook c_NoFit c_NoGame c_NoNumber c_NoPlayer c_NoRow c_NoStretch c_NoTable c_NoTree c_NoWorth) (n_len : mg "len" = none) (v_LETTERS : Cst mg "LETTERS" (.str "abcdefghijklmnopqrstuvwxyz"))  : Cal P w K mg base "read_word" ["text", "start"] 1 (sp_read_word K ns) := by
  refine d.cal (k := 0) sc_read_word (fun vs H Q E h => ?_) (fun f cdv A outer s H vs Q E hr h => ?_)
  · match vs, h with
    | [.str x, .int k], _ => rfl
  · match vs, h with
    | [.str x, .int k], ⟨n, u, v, ⟨hk, hz, hn, hd', hu, hv⟩, q⟩ =>
      refine ⟨_, (@pss_cons _ _ _ _ _ (@ps_set _ _ (2) _ _ _ _ sc_read_word.nd rfl (by first | exact Or.inl rfl | exact Or.inr rfl) (dv 1) (by rfl) (by first | exact .inl rfl | exact .inr rfl | assumption)) (@pss_cons _ _ _ _ _ (@s_while _ _ _ _ _ _ PassesOwn.never (@L2.PW.pt _ _ _ (@w_and _ _ _ _ _ _ _ (@t_cmp _ _ _ _ _ _ _ _ o_lt (dv 2) (@pe_callB _ _ _ _ _ _ _ _ _ c_len (by rfl) n_len (by decide +kernel) (@pa_cons _ _ _ _ _ (dv 0) pa_nil (by rfl)) (by decide) (by decide) (by rfl) (by rfl)) (@nomark _ _ (by decide) (by decide))) (@pw_and1 _ _ _ _ (@t_cmp _ _ _ _ _ _ _ _ o_in1 (@pe_ix _ _ _ _ _ _ _ i_str (dv 0) (dv 2) (fun _ _ => rfl)) (g_cst v_LETTERS (by rfl)) (by with_unfolding_all rfl))))) (@pss_one _ _ _ (@ps_set _ _ (2) _ _ _ _ sc_read_word.nd rfl (by first | exact Or.inl rfl | exact Or.inr rfl) (@pe_op _ _ _ _ _ _ _ _ o_add (dv 2) pe_int) (by rfl) (by first | exact .inl rfl | exact .inr rfl | assumption)))) (@pss_one _ _ _ (@ps_ret _ _ _ _ (@e_tup _ _ _ _ _ (@pa_cons _ _ _ _ _ (@pe_slice _ _ _ _ _ _ _ _ _ _ sl_str (dv 0) (po_some (dv 1)) (po_some (dv 2))) (@pa_cons _ _ _ _ _ (dv 2) pa_nil (by rfl)) (by rfl))))))), ?_⟩
      subst hk
      have hl : n + (u.length + v.length) = x.length := by
        have := congrArg List.length hd'
        rw [List.length_drop, co_len, List.length_append] at this
        omega
      have at' : ∀ i, (co x)[n + i]? = (u ++ v)[i]? := fun i => by rw [← hd', List.getElem?_drop]
      refine ⟨fun m σ H' => ∃ j : Nat, σ = [some (.str x), some (.int n), some (.int ((n + j : Nat) : Int))] ∧ H' = H ∧ j ≤ u.length ∧ m = u.length - j, ⟨_, 0, rfl, rfl, Nat.zero_le _, rfl⟩, ?_⟩
      rintro m σ H' ⟨j, rfl, rfl, hj, rfl⟩
      have fin : j = u.length → tRet (dTup (tCons (tSl dSlS (dVar 0) (tPart (dVar 1)) (tPart (dVar 2))) (tCons (dVar 2) tNil))) { nx := fun x H' => Q V.non H', rt := Q } [some (V.str x), some (V.int ↑n), some (V.int ((n + j : Nat) : Int))] H' := fun ej => by
        subst ej
        refine ⟨_, rfl, _, rfl, Nat.le_trans hz (by decide), fun T H2 s2 e2 => q T _ H2 s2 e2 ?_⟩
        rw [co_cut hn (by omega), hd', show n + u.length - n = u.length by omega, List.take_left]
      refine ⟨Nat.le_trans hz (by decide), ⟨fun h1 => ?_, fun h1 => ?_⟩⟩
      · have h1 : ((n + j : Nat) : Int) < (x.length : Int) := of_decide_eq_true h1
        obtain ⟨c, ec⟩ : ∃ c, (co x)[n + j]? = some c := ⟨_, List.getElem?_eq_getElem (by rw [co_len]; omega)⟩
        have eu := (at' j).symm.trans ec
        refine ⟨c, Nat.le_trans hz (by decide), atI_nat ec, c, rfl, ⟨fun h2 => ?_, fun h2 => ?_⟩⟩
        · have h2 : c ∈ co abc := of_decide_eq_true h2
          have hj' : j < u.length := Decidable.byContradiction fun z => by
            rw [List.getElem?_append_right (by omega), show j - u.length = 0 by omega] at eu
            exact hv c (by rw [List.head?_eq_getElem?]; exact eu) h2
          exact ⟨u.length - (j + 1), by omega, j + 1, rfl, rfl, by omega, rfl⟩
        · have h2 : c ∉ co abc := of_decide_eq_false h2
          refine fin (Decidable.byContradiction fun z => h2 (hu c ?_))
          rw [List.getElem?_append_left (by omega)] at eu
          exact List.mem_of_getElem? eu
      · have h1 : ¬ ((n + j : Nat) : Int) < (x.length : Int) := of_decide_eq_false h1
        exact ⟨fun h => nb h, fun _ => fin (by omega)⟩
def spR_read_part : Nat → PySem.W.Frag → List Int → Sp
  | 0, _, _ => fun _ _ _ _ => False
  | d + 1, K, ns => fun vs H Q E => match vs with
    | [.str x, .int k, .int e] => ∃ (n j : Nat), (k = n ∧ x.length ≤ 1000 ∧ n ≤ x.length ∧ e + j = 7 ∧ 0 ≤ e ∧ j ≤ d) ∧ (readP j ((co x).drop n) = none → ∀ H', Same H H' → ExN K "NoTree" E H') ∧
      ∀ t rest, readP j ((co x).drop n) = some (t, rest) → ∀ T v H', Same H H' → H' T = some (.tup [v, .int ((n + (showT t).length : Nat) : Int)]) → TrAt H' t v → Q (.ref T) H'
    | _ => False
def sp_read_part (K : PySem.W.Frag) (ns : List Int) : Sp := spR_read_part 8 K ns
theorem sc_read_part : FnScope ["text", "start", "depth", "one", "other"] ["text", "start", "depth"] (defScope s_read_part) := ⟨rfl, rfl, rfl, by decide +kernel, rfl, by decide +kernel, by decide +kernel⟩
theorem okS_read_part (d : Dfn K mg "read_part" s_read_part ["text", "start", "depth"]) (er : Errs K mg c_LadderError c_NoBook c_NoFit c_NoGame c_NoNumber c_NoPlayer c_NoRow c_NoStretch c_NoTable c_NoTree c_NoWorth)  (v_DEEPEST : Cst mg "DEEPEST" (.int (7))) (c_check_sign : Cal P w K mg base "check_sign" ["text", "at", "sign"] 1 (sp_check_sign K ns)) (c_read_word : Cal P w K mg base "read_word" ["text", "start"] 1 (sp_read_word K ns))  (dd : Nat) (c_read_part : Cal P w K mg base "read_part" ["text", "start", "depth"] (2 + dd) (spR_read_part dd K ns)) : Cal P w K mg base "read_part" ["text", "start", "depth"] (2 + (dd + 1)) (spR_read_part (dd + 1) K ns) := by
  refine d.calX (k := 2 + dd) sc_read_part (fun vs H Q E h => ?_) (fun f cdv A outer s H vs Q E hr h => ?_)
  · match vs, h with
    | [.str x, .int k, .int e], _ => rfl
  · match vs, h with
    | [.str x, .int k, .int e], ⟨n, j, ⟨hk, hz, hn, ej, e0, jd⟩, ex, q⟩ =>
      refine ⟨_, (@pss_cons _ _ _ _ _ (@s_if _ _ _ _ _ _ _ _ (@t_cmp _ _ _ _ _ _ _ _ o_ne (@pe_slice _ _ _ _ _ _ _ _ _ _ sl_str (dv 0) (po_some (dv 1)) (po_some (pe_op o_add (dv 1) pe_int))) pe_str (@nomark _ _ (by decide) (by decide))) (@pss_one _ _ _ (@ps_ret _ _ _ _ (@e_call _ _ _ _ _ _ _ _ _ _ _ c_read_word hr (by omega) (by rfl) (@pa_cons _ _ _ _ _ (dv 0) (@pa_cons _ _ _ _ _ (dv 1) pa_nil (by rfl)) (by rfl)) (by decide) (by rfl) (by rfl)))) pss_nil) (@pss_cons _ _ _ _ _ (@s_if _ _ _ _ _ _ _ _ (@t_cmp _ _ _ _ _ _ _ _ o_eq (dv 2) (g_cst v_DEEPEST (by rfl)) (@nomark _ _ (by decide) (by decide))) (@pss_one _ _ _ (@ps_raise _ _ _ _ _ _ _ _ _ _ _ _ _ _ _ _ _ _ _ _ _ _ _ er.b_NoTree er.x_NoTree (by rfl) (by decide))) pss_nil) (@pss_cons _ _ _ _ _ (@ps_set _ _ (3) _ _ _ _ sc_read_part.nd rfl (by first | exact Or.inl rfl | exact Or.inr rfl) (@e_callX _ _ _ _ _ _ _ _ _ _ _ _ _ _ _ _ _ _ _ _ _ _ _ _ _ c_read_part hr (by omega) (by rfl) (@pa_cons _ _ _ _ _ (dv 0) (@pa_cons _ _ _ _ _ (@pe_op _ _ _ _ _ _ _ _ o_add (dv 1) pe_int) (@pa_cons _ _ _ _ _ (@pe_op _ _ _ _ _ _ _ _ o_add (dv 2) pe_int) pa_nil (by rfl)) (by rfl)) (by rfl)) (by decide) (by rfl) (by rfl)) (by rfl) (by first | exact .inl rfl | exact .inr rfl | assumption)) (@pss_cons _ _ _ _ _ (@ps_expr _ _ _ _ (@e_callX _ _ _ _ _ _ _ _ _ _ _ _ _ _ _ _ _ _ _ _ _ _ _ _ _ c_check_sign hr (by omega) (by rfl) (@pa_cons _ _ _ _ _ (dv 0) (@pa_cons _ _ _ _ _ (@pe_ix _ _ _ _ _ _ _ i_tup (dv 3) pe_int (fun _ _ => rfl)) (@pa_cons _ _ _ _ _ pe_str pa_nil (by rfl)) (by rfl)) (by rfl)) (by decide) (by rfl) (by rfl)) (by rfl)) (@pss_cons _ _ _ _ _ (@ps_set _ _ (4) _ _ _ _ sc_read_part.nd rfl (by first | exact Or.inl rfl | exact Or.inr rfl) (@e_callX _ _ _ _ _ _ _ _ _ _ _ _ _ _ _ _ _ _ _ _ _ _ _ _ _ c_read_part hr (by omega) (by rfl) (@pa_cons _ _ _ _ _ (dv 0) (@pa_cons _ _ _ _ _ (@pe_op _ _ _ _ _ _ _ _ o_add (@pe_ix _ _ _ _ _ _ _ i_tup (dv 3) pe_int (fun _ _ => rfl)) pe_int) (@pa_cons _ _ _ _ _ (@pe_op _ _ _ _ _ _ _ _ o_add (dv 2) pe_int) pa_nil (by rfl)) (by rfl)) (by rfl)) (by decide) (by rfl) (by rfl)) (by rfl) (by first | exact .inl rfl | exact .inr rfl | assumption)) (@pss_cons _ _ _ _ _ (@ps_expr _ _ _ _ (@e_callX _ _ _ _ _ _ _ _ _ _ _ _ _ _ _ _ _ _ _ _ _ _ _ _ _ c_check_sign hr (by omega) (by rfl) (@pa_cons _ _ _ _ _ (dv 0) (@pa_cons _ _ _ _ _ (@pe_ix _ _ _ _ _ _ _ i_tup (dv 4) pe_int (fun _ _ => rfl)) (@pa_cons _ _ _ _ _ pe_str pa_nil (by rfl)) (by rfl)) (by rfl)) (by decide) (by rfl) (by rfl)) (by rfl)) (@pss_one _ _ _ (@ps_ret _ _ _ _ (@e_tup _ _ _ _ _ (@pa_cons _ _ _ _ _ (@e_tup _ _ _ _ _ (@pa_cons _ _ _ _ _ (@pe_ix _ _ _ _ _ _ _ i_tup (dv 3) pe_int (fun _ _ => rfl)) (@pa_cons _ _ _ _ _ (@pe_ix _ _ _ _ _ _ _ i_tup (dv 4) pe_int (fun _ _ => rfl)) pa_nil (by rfl)) (by rfl))) (@pa_cons _ _ _ _ _ (@pe_op _ _ _ _ _ _ _ _ o_add (@pe_ix _ _ _ _ _ _ _ i_tup (dv 4) pe_int (fun _ _ => rfl)) pe_int) pa_nil (by rfl)) (by rfl))))))))))), ?_⟩
      subst hk
      refine ⟨_, rfl, _, rfl, Nat.le_trans hz (by decide), ?_⟩
      generalize hcs : (co x).drop n = cs at ex q
      have lcs : n + cs.length = x.length := by
        rw [← hcs, List.length_drop, co_len]
        omega
      refine ⟨fun h => ?_, fun h => ?_⟩
      · have h : ¬ Txt.slice x (some (n : Int)) (some ((n : Int) + 1)) = "(" := by simpa using h
        have h40 : ¬ cs.head? = some 40 := fun z => h ((sl_head hn co40).mpr (by rw [hcs]; exact z))
        have rl := r_leaf h40 j
        refine ⟨n, lts cs, aft cs, ⟨rfl, hz, hn, by rw [hcs, lts_aft], fun c hc => lt_abc.mp (takeW c hc), fun c hc => ?_⟩, fun T y H2 s2 e2 ey => q _ _ rl T (.str y) H2 s2 e2 (congrArg V.str (co_inj ey))⟩
        exact fun z => dropW hc (lt_abc.mpr z)
      have h : Txt.slice x (some (n : Int)) (some ((n : Int) + 1)) = "(" := by simpa using h
      have h40 : cs.head? = some 40 := by
        rw [← hcs]
        exact (sl_head hn co40).mp h
      have cl : 1 ≤ cs.length := by
        rw [head_tail h40]
        simp
      have d1 : (co x).drop (n + 1) = cs.tail := by rw [← List.drop_drop, hcs, List.drop_one]
      refine ⟨fun h7 => ?_, fun h7 => ?_⟩
      · have h7 : e = 7 := of_decide_eq_true h7
        have j0 : j = 0 := by omega
        subst j0
        exact ex (r_zero h40) _ (Same.refl _) _ er.y_NoTree
      have h7 : ¬ e = 7 := of_decide_eq_false h7
      obtain ⟨j, rfl⟩ : ∃ i, j = i + 1 := ⟨j - 1, by omega⟩
      cases dd with
      | zero => omega
      | succ d' =>
        refine ⟨n + 1, j, ⟨by omega, hz, by omega, by omega, by omega, by omega⟩, fun hn1 => ?_, fun l r1 e1 T v H2 s2 e2 t2 => ?_⟩
        · rw [d1] at hn1
          exact ex (r_none1 h40 hn1)
        rw [d1] at e1
        obtain ⟨a1, _⟩ := readP_sound j e1
        have lt1 : cs.tail.length = (showT l).length + r1.length := by rw [a1, List.length_append]
        have lt2 : cs.length = cs.tail.length + 1 := by rw [List.length_tail]; omega
        have d2 : (co x).drop (n + 1 + (showT l).length) = r1 := by rw [← List.drop_drop, d1, a1, List.drop_left]
        refine ⟨_, e2, n + 1 + (showT l).length, 32, ⟨rfl, hz, by omega, co32⟩, fun h32 => ?_, fun h32 H3 s3 => ?_⟩
        rotate_left
        · rw [d2] at h32
          exact ex (r_none2 h40 e1 h32) H3 (s2.trans s3)
        rw [d2] at h32
        have d3 : (co x).drop (n + 1 + (showT l).length + 1) = r1.tail := by rw [← List.drop_drop, d2, List.drop_one]
        have lr1 : r1.length = r1.tail.length + 1 := by
          rw [head_tail h32]
          simp
        refine ⟨_, e2, n + 1 + (showT l).length + 1, j, ⟨by omega, hz, by omega, by omega, by omega, by omega⟩, fun hn2 H3 s3 => ?_, fun r r2 e3 T2 v2 H3 s3 e4 t3 => ?_⟩
        · rw [d3] at hn2
          exact ex (r_none3 h40 e1 h32 hn2) H3 (s2.trans s3)
        rw [d3] at e3
        obtain ⟨b1, _⟩ := readP_sound j e3
        have lt3 : r1.tail.length = (showT r).length + r2.length := by rw [b1, List.length_append]
        have d4 : (co x).drop (n + 1 + (showT l).length + 1 + (showT r).length) = r2 := by rw [← List.drop_drop, d3, b1, List.drop_left]
        refine ⟨_, e4, n + 1 + (showT l).length + 1 + (showT r).length, 41, ⟨rfl, hz, by omega, co41⟩, fun h41 => ?_, fun h41 H4 s4 => ?_⟩
        rotate_left
        · rw [d4] at h41
          exact ex (r_none4 h40 e1 h32 e3 h41) H4 (s2.trans (s3.trans s4))
        rw [d4] at h41
        have ok := r_ok h40 e1 h32 e3 h41
        refine ⟨_, s3 _ _ e2, _, e4, fun P H4 s4 e5 => ⟨_, s4 _ _ e4, fun T3 H5 s5 e6 => q _ _ ok T3 (.ref P) H5 (s2.trans (s3.trans (s4.trans s5))) ?_ ?_⟩⟩
        · rw [e6]
          refine congrArg (fun z => some (HO.tup [V.ref P, V.int z])) ?_
          have : (showT (.node l r)).length = 1 + (showT l).length + 1 + (showT r).length + 1 := by
            simp only [showT, List.length_cons, List.length_append, List.length_nil]
            omega
          rw [this]
          omega
        · exact ⟨P, v, v2, rfl, s5 _ _ e5, tr_up (kt_of (s3.trans (s4.trans s5))) _ _ t2, tr_up (kt_of (s4.trans s5)) _ _ t3⟩
theorem okR_read_part (d : Dfn K mg "read_part" s_read_part ["text", "start", "depth"]) (er : Errs K mg c_LadderError c_NoBook c_NoFit c_NoGame c_NoNumber c_NoPlayer c_NoRow c_NoStretch c_NoTable c_NoTree c_NoWorth)  (v_DEEPEST : Cst mg "DEEPEST" (.int (7))) (c_check_sign : Cal P w K mg base "check_sign" ["text", "at", "sign"] 1 (sp_check_sign K ns)) (c_read_word : Cal P w K mg base "read_word" ["text", "start"] 1 (sp_read_word K ns)) :  ∀ dd : Nat, Cal P w K mg base "read_part" ["text", "start", "depth"] (2 + dd) (spR_read_part dd K ns)
  | 0 => d.cal (k := 1) sc_read_part (fun vs H Q E h => False.elim h) (fun f cdv A outer s H vs Q E hr h => False.elim h)
  | dd + 1 => okS_read_part d er v_DEEPEST c_check_sign c_read_word dd (okR_read_part d er v_DEEPEST c_check_sign c_read_word dd)
theorem ok_read_part (d : Dfn K mg "read_part" s_read_part ["text", "start", "depth"]) (er : Errs K mg c_LadderError c_NoBook c_NoFit c_NoGame c_NoNumber c_NoPlayer c_NoRow c_NoStretch c_NoTable c_NoTree c_NoWorth)  (v_DEEPEST : Cst mg "DEEPEST" (.int (7))) (c_check_sign : Cal P w K mg base "check_sign" ["text", "at", "sign"] 1 (sp_check_sign K ns)) (c_read_word : Cal P w K mg base "read_word" ["text", "start"] 1 (sp_read_word K ns)) : Cal P w K mg base "read_part" ["text", "start", "depth"] 10 (sp_read_part K ns) := okR_read_part d er v_DEEPEST c_check_sign c_read_word 8
theorem isN_nm {x : Str} (h : isN (co x) = true) : Nm x := by
  have hl := isN_lt h
  unfold isN at h
  rw [Bool.and_eq_true, Bool.and_eq_true] at h
  exact ⟨of_decide_eq_true h.1.1, of_decide_eq_true h.1.2, fun c hc => abc_mem.mp (lt_abc.mp (hl c hc))⟩
theorem nm_isN {x : Str} (h : isNm (.str x) = true) : isN (co x) = true := by
  have h : isNmS x = true := h
  unfold isNmS at h
  unfold isN
  rw [co_len]
  rw [Bool.and_eq_true] at h ⊢
  refine ⟨h.1, List.all_eq_true.mpr fun c hc => lt_abc.mpr ?_⟩
  exact of_decide_eq_true (List.all_eq_true.mp h.2 c hc)
theorem VT.ok {t : Tr} (v : VT t) : TOk t := ⟨(List.Pairwise.imp (fun n e => n (congrArg co e)) (List.pairwise_map.mp v.nd)), v.len, fun x hx => isN_nm (v.nm x hx)⟩
theorem strs_inj : ∀ {l m : List Str}, l.map V.str = m.map V.str → l = m
  | [], [], _ => rfl
  | [], _ :: _, h => by cases h
  | _ :: _, [], h => by cases h
  | a :: l, b :: m, h => by
    rw [List.map_cons, List.map_cons] at h
    injection h with h1 h2
    rw [V.str.inj h1, strs_inj h2]
theorem vt_of {t : Tr} {l : List Str} (d : dpT t ≤ 7) (h : run ((lv t).map V.str) [] = some l) : VT t := by
  obtain ⟨m, h1, h2, h3, h4, h5⟩ := run_some h
  have e : lv t = m := strs_inj h1
  rw [List.nil_append] at h2
  subst h2
  rw [← e] at h3 h4 h5
  refine ⟨d, fun x hx => nm_isN (h3 x hx), ?_, h5 (Nat.zero_le _)⟩
  exact List.pairwise_map.mpr (List.Pairwise.imp (fun n c => n (co_inj c)) (h4 List.nodup_nil))
theorem mem_show : ∀ {t : Tr} {x : Str}, x ∈ lv t → (∀ c ∈ co x, c ∈ showT t) ∧ (co x).length ≤ (showT t).length
  | .leaf s, x, h => by
    rw [List.mem_singleton.mp h]
    exact ⟨fun _ h => h, Nat.le_refl _⟩
  | .node l r, x, h => by
    have e : showT (.node l r) = 40 :: (showT l ++ 32 :: (showT r ++ [41])) := rfl
    rcases List.mem_append.mp h with h | h
    · obtain ⟨a, b⟩ := mem_show h
      refine ⟨fun c hc => ?_, ?_⟩
      · rw [e]
        exact List.mem_cons_of_mem _ (List.mem_append_left _ (a c hc))
      · rw [e, List.length_cons, List.length_append]
        omega
    · obtain ⟨a, b⟩ := mem_show h
      refine ⟨fun c hc => ?_, ?_⟩
      · rw [e]
        exact List.mem_cons_of_mem _ (List.mem_append_right _ (List.mem_cons_of_mem _ (List.mem_append_left _ (a c hc))))
      · rw [e, List.length_cons, List.length_append, List.length_cons, List.length_append]
        omega
theorem show_3 : ∀ t : Tr, 3 * (lv t).length ≤ (showT t).length + 3
  | .leaf s => by
    show 3 * 1 ≤ _
    omega
  | .node l r => by
    have a := show_3 l
    have b := show_3 r
    show 3 * (lv l ++ lv r).length ≤ (40 :: (showT l ++ 32 :: (showT r ++ [41]))).length + 3
    simp only [List.length_cons, List.length_append, List.length_nil]
    omega
theorem th_O' {K : PySem.W.Frag} {H : Hp} : ∀ (t : Tr) (v : V), TrAt H t v → (∀ x ∈ lv t, x.length ≤ 1000 ∧ PyData.strOk x = true) → ThAt K H (thO t) v
  | .leaf s, v, h, n => by
    have h : v = .str s := h
    subst h
    have n := n s (List.mem_singleton.mpr rfl)
    exact ⟨rfl, lf_str n.1 n.2⟩
  | .node l r, v, ⟨p, a, b, e, h, h1, h2⟩, n => ⟨p, a, b, e, h, th_O' l a h1 fun x hx => n x (List.mem_append_left _ hx), th_O' r b h2 fun x hx => n x (List.mem_append_right _ hx)⟩
theorem done_all {x : Str} {t : Tr} (e : co x = showT t) (v : VT t) : readP 7 ((co x).drop 0) = some (t, []) := by
  have := readP_done t (k := 7) (rest := []) v.dp v.nm (fun c r e => by cases e)
  rw [List.append_nil] at this
  rw [List.drop_zero, e]
  exact this
def sp_read_tree (K : PySem.W.Frag) (ns : List Int) : Sp := fun vs H Q E => match vs with
  | [v] => (Kd H v ∧ (∀ x, v ≠ .str x) ∧ ∀ H', Same H H' → ExN K "NoTree" E H') ∨ ∃ x, v = .str x ∧ x.length ≤ 100 ∧ (∀ c ∈ co x, c < 123) ∧
      (¬ (∃ t, co x = showT t ∧ VT t) → ∀ H', Same H H' → ExN K "NoTree" E H') ∧ ∀ t, co x = showT t → VT t → ∀ v' H', Same H H' → TrAt H' t v' → Q v' H'
  | _ => False
theorem sc_read_tree : FnScope ["text", "found"] ["text"] (defScope s_read_tree) := ⟨rfl, rfl, rfl, by decide +kernel, rfl, by decide +kernel, by decide +kernel⟩
theorem ok_read_tree (d : Dfn K mg "read_tree" s_read_tree ["text"]) (er : Errs K mg c_LadderError c_NoBook c_NoFit c_NoGame c_NoNumber c_NoPlayer c_NoRow c_NoStretch c_NoTable c_NoTree c_NoWorth) (n_len : mg "len" = none) (n_isinstance : mg "isinstance" = none) (n_str : mg "str" = none)  (c_leaves : Cal P w K mg base "leaves" ["tree"] 2 (sp_leaves K ns)) (c_read_part : Cal P w K mg base "read_part" ["text", "start", "depth"] 10 (sp_read_part K ns)) : Cal P w K mg base "read_tree" ["text"] 11 (sp_read_tree K ns) := by
  refine d.calX (k := 10) sc_read_tree (fun vs H Q E h => ?_) (fun f cdv A outer s H vs Q E hr h => ?_)
  · match vs, h with
    | [v], _ => rfl
  · match vs, h with
    | [v], hh =>
      refine ⟨_, (@pss_cons _ _ _ _ _ (@s_if _ _ _ _ _ _ _ _ (@pt_not _ _ _ _ (@t_val _ _ _ (@pe_callB _ _ _ _ _ _ _ _ _ c_isi (by rfl) n_isinstance (by decide +kernel) (@pa_cons _ _ _ _ _ (dv 0) (@pa_cons _ _ _ _ _ (e_ty "str" (by rfl) n_str (by decide +kernel)) pa_nil (by rfl)) (by rfl)) (by decide) (by decide) (by rfl) (by rfl)) (by intro _; rfl))) (@pss_one _ _ _ (@ps_raise _ _ _ _ _ _ _ _ _ _ _ _ _ _ _ _ _ _ _ _ _ _ _ er.b_NoTree er.x_NoTree (by rfl) (by decide))) pss_nil) (@pss_cons _ _ _ _ _ (@ps_set _ _ (1) _ _ _ _ sc_read_tree.nd rfl (by first | exact Or.inl rfl | exact Or.inr rfl) (@e_callX _ _ _ _ _ _ _ _ _ _ _ _ _ _ _ _ _ _ _ _ _ _ _ _ _ c_read_part hr (by decide) (by rfl) (@pa_cons _ _ _ _ _ (dv 0) (@pa_cons _ _ _ _ _ pe_int (@pa_cons _ _ _ _ _ pe_int pa_nil (by rfl)) (by rfl)) (by rfl)) (by decide) (by rfl) (by rfl)) (by rfl) (by first | exact .inl rfl | exact .inr rfl | assumption)) (@pss_cons _ _ _ _ _ (@s_if _ _ _ _ _ _ _ _ (@t_cmp _ _ _ _ _ _ _ _ o_ne (@pe_ix _ _ _ _ _ _ _ i_tup (dv 1) pe_int (fun _ _ => rfl)) (@pe_callB _ _ _ _ _ _ _ _ _ c_len (by rfl) n_len (by decide +kernel) (@pa_cons _ _ _ _ _ (dv 0) pa_nil (by rfl)) (by decide) (by decide) (by rfl) (by rfl)) (@nomark _ _ (by decide) (by decide))) (@pss_one _ _ _ (@ps_raise _ _ _ _ _ _ _ _ _ _ _ _ _ _ _ _ _ _ _ _ _ _ _ er.b_NoTree er.x_NoTree (by rfl) (by decide))) pss_nil) (@pss_cons _ _ _ _ _ (@ps_expr _ _ _ _ (@e_callX _ _ _ _ _ _ _ _ _ _ _ _ _ _ _ _ _ _ _ _ _ _ _ _ _ c_leaves hr (by decide) (by rfl) (@pa_cons _ _ _ _ _ (@pe_ix _ _ _ _ _ _ _ i_tup (dv 1) pe_int (fun _ _ => rfl)) pa_nil (by rfl)) (by decide) (by rfl) (by rfl)) (by rfl)) (@pss_one _ _ _ (@ps_ret _ _ _ _ (@pe_ix _ _ _ _ _ _ _ i_tup (dv 1) pe_int (fun _ _ => rfl)))))))), ?_⟩
      rcases hh with ⟨kd, ns', ex⟩ | ⟨x, rfl, hz, lt, ex, q⟩
      · have ex := ex _ (Same.refl _) _ er.y_NoTree
        cases v with
        | int _ => exact ⟨false, rfl, ⟨fun _ => ex, fun h => nb h⟩⟩
        | bl _ => exact ⟨false, rfl, ⟨fun _ => ex, fun h => nb h⟩⟩
        | non => exact ⟨false, rfl, ⟨fun _ => ex, fun h => nb h⟩⟩
        | str x => exact absurd rfl (ns' x)
        | ref p =>
          obtain ⟨u, t, h1, h2, h3⟩ := kd
          exact ⟨u, false, t, h1, h2, ty_str h2, ⟨fun _ => ex, fun h => nb h⟩⟩
        | flt _ => exact kd.elim
        | byt _ => exact kd.elim
        | ty _ => exact kd.elim
      refine ⟨true, rfl, ⟨fun h => nb h, fun _ => ⟨0, 7, ⟨rfl, by omega, by omega, rfl, by decide, (by show 7 ≤ 7; decide)⟩, fun hn => ex ?_, fun t rest e T v H2 s2 e2 t2 => ?_⟩⟩⟩
      · rintro ⟨t, h1, h2⟩
        rw [done_all h1 h2] at hn
        cases hn
      obtain ⟨a1, a2⟩ := readP_sound 7 e
      rw [List.drop_zero] at a1
      have hl : x.length = (showT t).length + rest.length := by rw [← co_len, a1, List.length_append]
      refine ⟨_, e2, by show x.length ≤ sizeLine; exact Nat.le_trans hz (by decide), ⟨fun h => ?_, fun h => ?_⟩⟩
      · have h : ¬ ((0 + (showT t).length : Nat) : Int) = (x.length : Int) := by simpa using h
        refine ex ?_ _ s2 _ er.y_NoTree
        rintro ⟨t', h1, h2⟩
        rw [done_all h1 h2] at e
        cases e
        rw [List.length_nil] at hl
        omega
      have h : ((0 + (showT t).length : Nat) : Int) = (x.length : Int) := by simpa using h
      have r0 : rest = [] := List.eq_nil_of_length_eq_zero (by omega)
      subst r0
      rw [List.append_nil] at a1
      have l3 := show_3 t
      refine ⟨_, e2, thO t, ⟨th_O' t v t2 fun y hy => ?_, ?_⟩, fun hn => ?_, fun l hl' D H3 s3 _ _ => ?_⟩
      · obtain ⟨b1, b2⟩ := mem_show hy
        refine ⟨?_, ok_of fun c hc => ?_⟩
        · rw [← co_len]
          omega
        · have := lt c (by rw [a1]; exact b1 c hc)
          omega
      · rw [lvT_O, List.length_map]
        omega
      · intro H3 s3
        refine ex ?_ H3 (s2.trans s3)
        rintro ⟨t', h1, h2⟩
        rw [done_all h1 h2] at e
        cases e
        rw [lvT_O, run_tr (fun x hx => (h2.ok.nm x hx).is) h2.ok.nd h2.ok.len] at hn
        cases hn
      · rw [lvT_O] at hl'
        exact ⟨_, s3 _ _ e2, q t a1 (vt_of a2 hl') v H3 (s2.trans s3) (tr_up (kt_of s3) _ _ t2)⟩
def sp_show_tree (K : PySem.W.Frag) (ns : List Int) : Sp := fun vs H Q _ => match vs with
  | [v] => ∃ t, (TrAt H t v ∧ TOk t) ∧ ∀ x H', Same H H' → co x = showT t → Q (.str x) H'
  | _ => False
theorem sc_show_tree : FnScope ["tree"] ["tree"] (defScope s_show_tree) := ⟨rfl, rfl, rfl, by decide +kernel, rfl, by decide +kernel, by decide +kernel⟩
theorem ok_show_tree (d : Dfn K mg "show_tree" s_show_tree ["tree"]) (er : Errs K mg c_LadderError c_NoBook c_NoFit c_NoGame c_NoNumber c_NoPlayer c_NoRow c_NoStretch c_NoTable c_NoTree c_NoWorth)   (c_show_part : Cal P w K mg base "show_part" ["part"] 9 (sp_show_part K ns)) (c_leaves : Cal P w K mg base "leaves" ["tree"] 2 (sp_leaves K ns)) : Cal P w K mg base "show_tree" ["tree"] 10 (sp_show_tree K ns) := by
  refine d.cal (k := 9) sc_show_tree (fun vs H Q E h => ?_) (fun f cdv A outer s H vs Q E hr h => ?_)
  · match vs, h with
    | [v], _ => rfl
  · match vs, h with
    | [v], ⟨t, ⟨hT, ok⟩, q⟩ =>
      refine ⟨_, (@pss_cons _ _ _ _ _ (@ps_expr _ _ _ _ (@e_call _ _ _ _ _ _ _ _ _ _ _ c_leaves hr (by decide) (by rfl) (@pa_cons _ _ _ _ _ (dv 0) pa_nil (by rfl)) (by decide) (by rfl) (by rfl)) (by rfl)) (@pss_one _ _ _ (@ps_ret _ _ _ _ (@e_call _ _ _ _ _ _ _ _ _ _ _ c_show_part hr (by decide) (by rfl) (@pa_cons _ _ _ _ _ (dv 0) pa_nil (by rfl)) (by decide) (by rfl) (by rfl))))), ?_⟩
      have ro : run (lvT (thO t)) [] = some (lv t) := by
        rw [lvT_O]
        exact run_tr (fun x hx => (ok.nm x hx).is) ok.nd ok.len
      refine ⟨thO t, ⟨th_O t v hT ok.nm, ?_⟩, fun e => (by rw [ro] at e; cases e), fun l e D H2 s2 _ _ => ⟨t, ⟨tr_up (kt_of s2) _ _ hT, ok, ok.len⟩, fun x hx => q x H2 s2 hx⟩⟩
      rw [lvT_O, List.length_map]
      have := ok.len
      omega
theorem for_str {x : Str} {g : TG} {tb : TS} {D : Ends} {σ : L2.St} {H : Hp} (Pv : Nat → L2.St → Hp → Prop) (h0 : Pv 0 σ H)
    (hs : ∀ i c σ H, (co x)[i]? = some c → Pv i σ H → g (.str ⟨#[c]⟩) σ H fun σ2 H2 => tb { D with nx := Pv (i + 1), ct := Pv (i + 1), bk := D.nx } σ2 H2) (hd : ∀ σ H, Pv x.length σ H → D.nx σ H) :
    ∃ W : Nat → Nat → L2.St → Hp → Prop, (∃ m, W 0 m σ H) ∧ ∀ i m σ H, W i m σ H →
      ((Its x).stop i H ∧ D.nx σ H) ∨ ((Its x).go i H ∧ ∃ N : L2.St → Hp → Prop, (∀ σ' H', N σ' H' → ∃ m', m' < m ∧ W (i + 1) m' σ' H') ∧ ∀ v H', (Its x).yld i H v H' → g v σ H' fun σ2 H2 => tb { D with nx := N, ct := N, bk := D.nx } σ2 H2) := by
  refine ⟨fun i m σ H => m = x.length - i ∧ i ≤ x.length ∧ Pv i σ H, ⟨_, rfl, Nat.zero_le _, h0⟩, ?_⟩
  rintro i m σ H ⟨rfl, hi, p⟩
  by_cases lt : i < x.length
  · refine .inr ⟨lt, Pv (i + 1), fun σ' H' p' => ⟨_, (by omega : x.length - (i + 1) < x.length - i), rfl, lt, p'⟩, ?_⟩
    rintro v H' ⟨rfl, c, hc, rfl⟩
    exact hs i c σ _ hc p
  · have e : i = x.length := by omega
    exact .inl ⟨Nat.le_of_not_lt lt, hd σ H (e ▸ p)⟩
theorem sep_in {c : Nat} : decide (c ∈ co (Str.ofString "() ")) = isSep c := by
  rw [show co (Str.ofString "() ") = [40, 41, 32] by decide +kernel]
  unfold isSep
  by_cases a : c = 40
  · subst a
    rfl
  by_cases b : c = 41
  · subst b
    rfl
  by_cases d : c = 32
  · subst d
    rfl
  simp [a, b, d]
theorem drop_cons {l : List Nat} {i c : Nat} (h : l[i]? = some c) : l.drop i = c :: l.drop (i + 1) := by
  obtain ⟨hi, e⟩ := List.getElem?_eq_some_iff.mp h
  rw [← List.getElem_cons_drop hi, e]
theorem emp_co {w : Str} : w = Str.ofString "" ↔ co w = [] := by
  constructor
  · rintro rfl
    decide +kernel
  · intro h
    exact co_inj (h.trans (by decide +kernel))
def sp_l_words (K : PySem.W.Frag) (ns : List Int) : Sp := fun vs H Q _ => match vs with
  | [.str x] => x.length ≤ 100 ∧ ∀ L (ws : List Str) H', Same H H' → H L = none → H' L = some (.lst (ws.map V.str)) → ws.map co = words (co x) [] → ws.length ≤ 201 → Q (.ref L) H'
  | _ => False
theorem sc_l_words : FnScope ["_law_text_here", "_law_words_here", "_law_word", "_law_sign"] ["_law_text_here"] (defScope s_l_words) := ⟨rfl, rfl, rfl, by decide +kernel, rfl, by decide +kernel, by decide +kernel⟩
theorem ok_l_words (d : Dfn K mg "_law_words" s_l_words ["_law_text_here"]) (er : Errs K mg c_LadderError c_NoBook c_NoFit c_NoGame c_NoNumber c_NoPlayer c_NoRow c_NoStretch c_NoTable c_NoTree c_NoWorth)    : Cal P w K mg base "_law_words" ["_law_text_here"] 1 (sp_l_words K ns) := by
  refine d.cal (k := 0) sc_l_words (fun vs H Q E h => ?_) (fun f cdv A outer s H vs Q E hr h => ?_)
  · match vs, h with
    | [.str x], _ => rfl
  · match vs, h with
    | [.str x], ⟨hz, q⟩ =>
      refine ⟨_, (@pss_cons _ _ _ _ _ (@ps_set _ _ (1) _ _ _ _ sc_l_words.nd rfl (by first | exact Or.inl rfl | exact Or.inr rfl) (@pe_lst _ _ _ _ pa_nil) (by rfl) (by first | exact .inl rfl | exact .inr rfl | assumption)) (@pss_cons _ _ _ _ _ (@ps_set _ _ (2) _ _ _ _ sc_l_words.nd rfl (by first | exact Or.inl rfl | exact Or.inr rfl) pe_str (by rfl) (by first | exact .inl rfl | exact .inr rfl | assumption)) (@pss_cons _ _ _ _ _ (@ps_for _ _ _ _ _ _ _ _ PassesOwn.never rfl (@pi_str _ _ _ _ (dv 0)) (@pg_name _ _ (3) _ sc_l_words.nd rfl (by first | exact Or.inl rfl | exact Or.inr rfl) (by first | exact .inl rfl | exact .inr rfl | assumption)) (@pss_one _ _ _ (@s_if _ _ _ _ _ _ _ _ (@t_cmp _ _ _ _ _ _ _ _ o_in1 (dv 3) pe_str (by with_unfolding_all rfl)) (@pss_cons _ _ _ _ _ (@s_if _ _ _ _ _ _ _ _ (@t_cmp _ _ _ _ _ _ _ _ o_ne (dv 2) pe_str (@nomark _ _ (by decide) (by decide))) (@pss_one _ _ _ (@ps_expr _ _ _ _ (@pe_bm _ _ _ _ _ _ _ _ _ _ _ _ PySem.F.plainAttrs_list PySem.F.slot_list_append PySem.F.type_list_append mt_append (dv 1) (@pa_cons _ _ _ _ _ (dv 2) pa_nil (by rfl)) (by rfl) (by rfl) (by rfl) (by rfl) (by rfl)) (by rfl))) pss_nil) (@pss_cons _ _ _ _ _ (@ps_expr _ _ _ _ (@pe_bm _ _ _ _ _ _ _ _ _ _ _ _ PySem.F.plainAttrs_list PySem.F.slot_list_append PySem.F.type_list_append mt_append (dv 1) (@pa_cons _ _ _ _ _ (dv 3) pa_nil (by rfl)) (by rfl) (by rfl) (by rfl) (by rfl) (by rfl)) (by rfl)) (@pss_one _ _ _ (@ps_set _ _ (2) _ _ _ _ sc_l_words.nd rfl (by first | exact Or.inl rfl | exact Or.inr rfl) pe_str (by rfl) (by first | exact .inl rfl | exact .inr rfl | assumption))))) (@pss_one _ _ _ (@ps_set _ _ (2) _ _ _ _ sc_l_words.nd rfl (by first | exact Or.inl rfl | exact Or.inr rfl) (@pe_op _ _ _ _ _ _ _ _ o_addS (dv 2) (dv 3)) (by rfl) (by first | exact .inl rfl | exact .inr rfl | assumption))))) (by intro _; rfl)) (@pss_cons _ _ _ _ _ (@s_if _ _ _ _ _ _ _ _ (@t_cmp _ _ _ _ _ _ _ _ o_ne (dv 2) pe_str (@nomark _ _ (by decide) (by decide))) (@pss_one _ _ _ (@ps_expr _ _ _ _ (@pe_bm _ _ _ _ _ _ _ _ _ _ _ _ PySem.F.plainAttrs_list PySem.F.slot_list_append PySem.F.type_list_append mt_append (dv 1) (@pa_cons _ _ _ _ _ (dv 2) pa_nil (by rfl)) (by rfl) (by rfl) (by rfl) (by rfl) (by rfl)) (by rfl))) pss_nil) (@pss_one _ _ _ (@ps_ret _ _ _ _ (dv 1))))))), ?_⟩
      refine ⟨by decide, fun L hL => ?_⟩
      refine for_str (fun i σ H' => ∃ (ws : List Str) (w : Str) (o : Option V), σ = [some (.str x), some (.ref L), some (.str w), o] ∧ H' = upd H L (.lst (ws.map V.str)) ∧ i ≤ x.length ∧ ws.length ≤ 2 * i ∧ w.length ≤ i ∧ ws.map co ++ words ((co x).drop i) (co w) = words (co x) []) ⟨[], Str.ofString "", none, rfl, rfl, Nat.zero_le _, Nat.le_refl _, Nat.le_refl _, ?_⟩ ?_ ?_
      · rw [List.drop_zero, show co (Str.ofString "") = [] by decide +kernel]
        rfl
      · rintro i c σ H' hc ⟨ws, w, o, rfl, rfl, hi, lw, ll, hw⟩
        have il : i < x.length := by
          have := (List.getElem?_eq_some_iff.mp hc).1
          rw [co_len] at this
          exact this
        have zs : ∀ {n : Nat}, n ≤ 201 → n < sizeLine := fun h => Nat.lt_of_le_of_lt h (by decide)
        rw [drop_cons hc] at hw
        refine ⟨c, rfl, ?_⟩
        rw [sep_in]
        refine ⟨fun hs => ⟨fun hn => ?_, fun hn => ?_⟩, fun hs => ?_⟩
        · have hn : ¬ w = Str.ofString "" := by simpa using hn
          rw [words_sep hs, show wd (co w) = [co w] from if_neg fun z => hn (emp_co.mpr z)] at hw
          refine ⟨.inl ⟨rfl, _, SqL.of upd_same⟩, L, _, _, rfl, rfl, upd_same, zs (by rw [List.length_map]; omega), ?_⟩
          rw [upd_upd]
          refine ⟨.inl ⟨rfl, _, SqL.of upd_same⟩, L, _, _, rfl, rfl, upd_same, zs (by rw [List.length_append, List.length_map]; show ws.length + 1 ≤ 201; omega), ?_⟩
          rw [upd_upd]
          refine ⟨ws ++ [w] ++ [⟨#[c]⟩], Str.ofString "", _, rfl, ?_, by omega, by simp; omega, Nat.zero_le _, ?_⟩
          · simp
          · rw [← hw, show co (Str.ofString "") = [] by decide +kernel]
            simp [co_one]
        · have hn : w = Str.ofString "" := by simpa using hn
          rw [words_sep hs, show wd (co w) = [] from if_pos (emp_co.mp hn)] at hw
          refine ⟨.inl ⟨rfl, _, SqL.of upd_same⟩, L, _, _, rfl, rfl, upd_same, zs (by rw [List.length_map]; omega), ?_⟩
          rw [upd_upd]
          refine ⟨ws ++ [⟨#[c]⟩], Str.ofString "", _, rfl, ?_, by omega, by simp; omega, Nat.zero_le _, ?_⟩
          · simp
          · rw [← hw, show co (Str.ofString "") = [] by decide +kernel]
            simp [co_one]
        · rw [words, if_neg (by rw [hs]; decide)] at hw
          have z1 : (⟨#[c]⟩ : Str).length = 1 := rfl
          refine ⟨Nat.le_trans (show w.length + 1 ≤ 101 by omega) (by decide), ws, w ++ ⟨#[c]⟩, _, rfl, rfl, by omega, by omega, by rw [len_app, z1]; omega, ?_⟩
          rw [co_app, co_one]
          exact hw
      · rintro σ H' ⟨ws, w, o, rfl, rfl, hi, lw, ll, hw⟩
        rw [List.drop_eq_nil_of_le (by rw [co_len]; exact Nat.le_refl _)] at hw
        have hw : ws.map co ++ wd (co w) = words (co x) [] := hw
        refine ⟨fun hn => ?_, fun hn => ?_⟩
        · have hn : ¬ w = Str.ofString "" := by simpa using hn
          rw [show wd (co w) = [co w] from if_neg fun z => hn (emp_co.mpr z)] at hw
          refine ⟨.inl ⟨rfl, _, SqL.of upd_same⟩, L, _, _, rfl, rfl, upd_same, Nat.lt_of_le_of_lt (show _ ≤ 201 by rw [List.length_map]; omega) (by decide), ?_⟩
          rw [upd_upd]
          refine q L (ws ++ [w]) _ (same_upd hL) hL ?_ ?_ ?_
          · rw [upd_same, List.map_append]
            rfl
          · rw [← hw, List.map_append]
            rfl
          · rw [List.length_append]
            show ws.length + 1 ≤ 201
            omega
        · have hn : w = Str.ofString "" := by simpa using hn
          rw [show wd (co w) = [] from if_pos (emp_co.mp hn), List.append_nil] at hw
          exact q L ws _ (same_upd hL) hL upd_same hw (by omega)
def dNIn1 : R2 := fun x y H Q => match x, y with
  | .str i, .str j => ∃ c, i = ⟨#[c]⟩ ∧ Q (.bl (!decide (c ∈ co j))) H
  | _, _ => False
theorem o_nin1 {X : Cx} : OpR X (compareOp .NotIn) dNIn1 := by
  intro pins s σ H x y v u Q I rx ry q
  match x, y, q with
  | .str i, .str j, ⟨c, e, q⟩ =>
    subst e
    exact op_notin_str _ _ _ _ _ _ _ _ _ I rx ry ⟨_, _, rfl, rfl, by rw [StrLaws.found_one]; exact q⟩
def sp_l_is_name (K : PySem.W.Frag) (ns : List Int) : Sp := fun vs H Q _ => match vs with
  | [.str x] => x.length ≤ 1000 ∧ Q (.bl (isN (co x))) H
  | _ => False
theorem sc_l_is_name : FnScope ["_law_word", "_law_sign"] ["_law_word"] (defScope s_l_is_name) := ⟨rfl, rfl, rfl, by decide +kernel, rfl, by decide +kernel, by decide +kernel⟩
theorem ok_l_is_name (d : Dfn K mg "_law_is_name" s_l_is_name ["_law_word"]) (er : Errs K mg c_LadderError c_NoBook c_NoFit c_NoGame c_NoNumber c_NoPlayer c_NoRow c_NoStretch c_NoTable c_NoTree c_NoWorth) (n_len : mg "len" = none)   : Cal P w K mg base "_law_is_name" ["_law_word"] 1 (sp_l_is_name K ns) := by
  refine d.cal (k := 0) sc_l_is_name (fun vs H Q E h => ?_) (fun f cdv A outer s H vs Q E hr h => ?_)
  · match vs, h with
    | [.str x], _ => rfl
  · match vs, h with
    | [.str x], ⟨hz, q⟩ =>
      refine ⟨_, (@pss_cons _ _ _ _ _ (@ps_for _ _ _ _ _ _ _ _ PassesOwn.never rfl (@pi_str _ _ _ _ (dv 0)) (@pg_name _ _ (1) _ sc_l_is_name.nd rfl (by first | exact Or.inl rfl | exact Or.inr rfl) (by first | exact .inl rfl | exact .inr rfl | assumption)) (@pss_one _ _ _ (@s_if _ _ _ _ _ _ _ _ (@t_cmp _ _ _ _ _ _ _ _ o_nin1 (dv 1) pe_str (by with_unfolding_all rfl)) (@pss_one _ _ _ (@ps_ret _ _ _ _ pe_bl)) pss_nil)) (by intro _; rfl)) (@pss_one _ _ _ (@ps_ret _ _ _ _ (@e_and _ _ _ _ _ _ _ (@pe_cmpR _ _ _ _ _ _ _ _ o_gt (@pe_callB _ _ _ _ _ _ _ _ _ c_len (by rfl) n_len (by decide +kernel) (@pa_cons _ _ _ _ _ (dv 0) pa_nil (by rfl)) (by decide) (by decide) (by rfl) (by rfl)) pe_int (@nomark _ _ (by decide) (by decide))) (@pe_one _ _ _ _ _ (@pe_cmpR _ _ _ _ _ _ _ _ o_le (@pe_callB _ _ _ _ _ _ _ _ _ c_len (by rfl) n_len (by decide +kernel) (@pa_cons _ _ _ _ _ (dv 0) pa_nil (by rfl)) (by decide) (by decide) (by rfl) (by rfl)) pe_int (@nomark _ _ (by decide) (by decide)))))))), ?_⟩
      have zx : x.length ≤ sizeLine := Nat.le_trans hz (by decide)
      refine for_str (fun i σ H' => ∃ o : Option V, σ = [some (.str x), o] ∧ H' = H ∧ ∀ c ∈ (co x).take i, isLt c = true) ⟨none, rfl, rfl, fun c h => by simp at h⟩ ?_ ?_
      · rintro i c σ H' hc ⟨o, rfl, rfl, ha⟩
        have e : decide (c ∈ co (Str.ofString "abcdefghijklmnopqrstuvwxyz")) = isLt c := by
          rw [Bool.eq_iff_iff, decide_eq_true_iff]
          exact lt_abc.symm
        refine ⟨c, rfl, ?_⟩
        rw [e]
        refine ⟨fun h => ?_, fun h => ⟨_, rfl, rfl, fun d hd => ?_⟩⟩
        · have h : isLt c = false := by simpa using h
          have e2 : isN (co x) = false := by
            unfold isN
            have : (co x).all isLt = false := List.all_eq_false.mpr ⟨c, List.mem_of_getElem? hc, by rw [h]; decide⟩
            rw [this, Bool.and_false]
          rw [e2] at q
          exact q
        · have h : isLt c = true := by simpa using h
          rw [List.take_add_one, hc] at hd
          rcases List.mem_append.mp hd with hd | hd
          · exact ha d hd
          · have : d = c := by simpa using hd
            rw [this]
            exact h
      · rintro σ H' ⟨o, rfl, rfl, ha⟩
        have al : (co x).all isLt = true := List.all_eq_true.mpr fun c hc => ha c (by rw [List.take_of_length_le (by rw [co_len]; exact Nat.le_refl _)]; exact hc)
        have e : isN (co x) = (decide (0 < x.length) && decide (x.length ≤ 8)) := by
          unfold isN
          rw [al, Bool.and_true, co_len]
          rfl
        rw [e] at q
        refine ⟨zx, ⟨fun h => ⟨zx, ?_⟩, fun h => ?_⟩⟩
        · have h : (0 : Int) < x.length := of_decide_eq_true h
          rw [decide_eq_true (show 0 < x.length by omega), Bool.true_and] at q
          show Q (.bl (decide ((x.length : Int) ≤ 8))) H'
          rw [show decide ((x.length : Int) ≤ 8) = decide (x.length ≤ 8) by simp only [decide_eq_decide]; omega]
          exact q
        · have h : ¬ (0 : Int) < x.length := of_decide_eq_false h
          rw [decide_eq_false (show ¬ 0 < x.length by omega), Bool.false_and] at q
          exact q
def sp_l_no_tree (K : PySem.W.Frag) (ns : List Int) : Sp := fun vs H Q _ => match vs with
  | [.ref p] => ∃ C, (PySem.W.nsIn K mainGlobals "NoTree" = some (some (.ref C)) ∧ H p = some (.ext (ExcAt p C))) ∧ Q (.bl true) H
  | _ => False
theorem sc_l_no_tree : FnScope ["_law_error"] ["_law_error"] (defScope s_l_no_tree) := ⟨rfl, rfl, rfl, by decide +kernel, rfl, by decide +kernel, by decide +kernel⟩
theorem ok_l_no_tree (d : Dfn K mg "_law_no_tree" s_l_no_tree ["_law_error"]) (er : Errs K mg c_LadderError c_NoBook c_NoFit c_NoGame c_NoNumber c_NoPlayer c_NoRow c_NoStretch c_NoTable c_NoTree c_NoWorth) (n_isinstance : mg "isinstance" = none) (n_ValueError : mg "ValueError" = none)   : Cal P w K mg base "_law_no_tree" ["_law_error"] 1 (sp_l_no_tree K ns) := by
  refine d.cal (k := 0) sc_l_no_tree (fun vs H Q E h => ?_) (fun f cdv A outer s H vs Q E hr h => ?_)
  · match vs, h with
    | [.ref p], _ => rfl
  · match vs, h with
    | [.ref p], ⟨C, ⟨hC, e3⟩, q⟩ =>
      refine ⟨_, (@pss_cons _ _ _ _ _ (@s_if _ _ _ _ _ _ _ _ (@L2.PW.pt _ _ _ (@w_or _ _ _ _ _ _ _ (@t_val _ _ _ (@pe_callB _ _ _ _ _ _ _ _ _ (show CallR _ (.builtin "isinstance") (dIsiX K) from c_isiX) (by rfl) n_isinstance (by decide +kernel) (@pa_cons _ _ _ _ _ (dv 0) (@pa_cons _ _ _ _ _ (@pe_glob _ _ (.ref c_NoBook) _ _ (by rfl) er.b_NoBook rfl (by decide)) pa_nil (by rfl)) (by rfl)) (by decide) (by decide) (by rfl) (by rfl)) (by intro _; rfl)) (@w_or _ _ _ _ _ _ _ (@t_val _ _ _ (@pe_callB _ _ _ _ _ _ _ _ _ (show CallR _ (.builtin "isinstance") (dIsiX K) from c_isiX) (by rfl) n_isinstance (by decide +kernel) (@pa_cons _ _ _ _ _ (dv 0) (@pa_cons _ _ _ _ _ (@pe_glob _ _ (.ref c_NoWorth) _ _ (by rfl) er.b_NoWorth rfl (by decide)) pa_nil (by rfl)) (by rfl)) (by decide) (by decide) (by rfl) (by rfl)) (by intro _; rfl)) (@pw_or1 _ _ _ _ (@t_val _ _ _ (@pe_callB _ _ _ _ _ _ _ _ _ (show CallR _ (.builtin "isinstance") (dIsiX K) from c_isiX) (by rfl) n_isinstance (by decide +kernel) (@pa_cons _ _ _ _ _ (dv 0) (@pa_cons _ _ _ _ _ (@pe_glob _ _ (.ref c_NoGame) _ _ (by rfl) er.b_NoGame rfl (by decide)) pa_nil (by rfl)) (by rfl)) (by decide) (by decide) (by rfl) (by rfl)) (by intro _; rfl)))))) (@pss_one _ _ _ (@ps_ret _ _ _ _ pe_bl)) pss_nil) (@pss_cons _ _ _ _ _ (@s_if _ _ _ _ _ _ _ _ (@L2.PW.pt _ _ _ (@w_or _ _ _ _ _ _ _ (@t_val _ _ _ (@pe_callB _ _ _ _ _ _ _ _ _ (show CallR _ (.builtin "isinstance") (dIsiX K) from c_isiX) (by rfl) n_isinstance (by decide +kernel) (@pa_cons _ _ _ _ _ (dv 0) (@pa_cons _ _ _ _ _ (@pe_glob _ _ (.ref c_NoNumber) _ _ (by rfl) er.b_NoNumber rfl (by decide)) pa_nil (by rfl)) (by rfl)) (by decide) (by decide) (by rfl) (by rfl)) (by intro _; rfl)) (@w_or _ _ _ _ _ _ _ (@t_val _ _ _ (@pe_callB _ _ _ _ _ _ _ _ _ (show CallR _ (.builtin "isinstance") (dIsiX K) from c_isiX) (by rfl) n_isinstance (by decide +kernel) (@pa_cons _ _ _ _ _ (dv 0) (@pa_cons _ _ _ _ _ (@pe_glob _ _ (.ref c_NoFit) _ _ (by rfl) er.b_NoFit rfl (by decide)) pa_nil (by rfl)) (by rfl)) (by decide) (by decide) (by rfl) (by rfl)) (by intro _; rfl)) (@pw_or1 _ _ _ _ (@t_val _ _ _ (@pe_callB _ _ _ _ _ _ _ _ _ (show CallR _ (.builtin "isinstance") (dIsiX K) from c_isiX) (by rfl) n_isinstance (by decide +kernel) (@pa_cons _ _ _ _ _ (dv 0) (@pa_cons _ _ _ _ _ (@pe_glob _ _ (.ref c_NoRow) _ _ (by rfl) er.b_NoRow rfl (by decide)) pa_nil (by rfl)) (by rfl)) (by decide) (by decide) (by rfl) (by rfl)) (by intro _; rfl)))))) (@pss_one _ _ _ (@ps_ret _ _ _ _ pe_bl)) pss_nil) (@pss_cons _ _ _ _ _ (@s_if _ _ _ _ _ _ _ _ (@L2.PW.pt _ _ _ (@w_or _ _ _ _ _ _ _ (@t_val _ _ _ (@pe_callB _ _ _ _ _ _ _ _ _ (show CallR _ (.builtin "isinstance") (dIsiX K) from c_isiX) (by rfl) n_isinstance (by decide +kernel) (@pa_cons _ _ _ _ _ (dv 0) (@pa_cons _ _ _ _ _ (@pe_glob _ _ (.ref c_NoStretch) _ _ (by rfl) er.b_NoStretch rfl (by decide)) pa_nil (by rfl)) (by rfl)) (by decide) (by decide) (by rfl) (by rfl)) (by intro _; rfl)) (@w_or _ _ _ _ _ _ _ (@t_val _ _ _ (@pe_callB _ _ _ _ _ _ _ _ _ (show CallR _ (.builtin "isinstance") (dIsiX K) from c_isiX) (by rfl) n_isinstance (by decide +kernel) (@pa_cons _ _ _ _ _ (dv 0) (@pa_cons _ _ _ _ _ (@pe_glob _ _ (.ref c_NoTable) _ _ (by rfl) er.b_NoTable rfl (by decide)) pa_nil (by rfl)) (by rfl)) (by decide) (by decide) (by rfl) (by rfl)) (by intro _; rfl)) (@pw_or1 _ _ _ _ (@t_val _ _ _ (@pe_callB _ _ _ _ _ _ _ _ _ (show CallR _ (.builtin "isinstance") (dIsiX K) from c_isiX) (by rfl) n_isinstance (by decide +kernel) (@pa_cons _ _ _ _ _ (dv 0) (@pa_cons _ _ _ _ _ (@pe_glob _ _ (.ref c_NoPlayer) _ _ (by rfl) er.b_NoPlayer rfl (by decide)) pa_nil (by rfl)) (by rfl)) (by decide) (by decide) (by rfl) (by rfl)) (by intro _; rfl)))))) (@pss_one _ _ _ (@ps_ret _ _ _ _ pe_bl)) pss_nil) (@pss_one _ _ _ (@ps_ret _ _ _ _ (@e_and _ _ _ _ _ _ _ (@pe_callB _ _ _ _ _ _ _ _ _ (show CallR _ (.builtin "isinstance") (dIsiX K) from c_isiX) (by rfl) n_isinstance (by decide +kernel) (@pa_cons _ _ _ _ _ (dv 0) (@pa_cons _ _ _ _ _ (@pe_glob _ _ (.ref c_NoTree) _ _ (by rfl) er.b_NoTree rfl (by decide)) pa_nil (by rfl)) (by rfl)) (by decide) (by decide) (by rfl) (by rfl)) (@e_and _ _ _ _ _ _ _ (@pe_callB _ _ _ _ _ _ _ _ _ (show CallR _ (.builtin "isinstance") (dIsiX K) from c_isiX) (by rfl) n_isinstance (by decide +kernel) (@pa_cons _ _ _ _ _ (dv 0) (@pa_cons _ _ _ _ _ (@pe_glob _ _ (.ref c_LadderError) _ _ (by rfl) er.b_LadderError rfl (by decide)) pa_nil (by rfl)) (by rfl)) (by decide) (by decide) (by rfl) (by rfl)) (@pe_one _ _ _ _ _ (@pe_callB _ _ _ _ _ _ _ _ _ (show CallR _ (.builtin "isinstance") (dIsiX K) from c_isiX) (by rfl) n_isinstance (by decide +kernel) (@pa_cons _ _ _ _ _ (dv 0) (@pa_cons _ _ _ _ _ (e_ty "ValueError" (by rfl) n_ValueError (by decide +kernel)) pa_nil (by rfl)) (by rfl)) (by decide) (by decide) (by rfl) (by rfl)))))))))), ?_⟩
      have hC' := ns_inj hC er.y_NoTree
      subst hC'
      have xg := er.x_NoTree
      refine ⟨_, _, e3, xg, er.kk_NoTree_NoBook, ⟨fun h => nb h, fun _ => ⟨_, _, e3, xg, er.kk_NoTree_NoWorth, ⟨fun h => nb h, fun _ => ⟨_, _, e3, xg, er.kk_NoTree_NoGame, ⟨fun h => nb h, fun _ => ?_⟩⟩⟩⟩⟩⟩
      refine ⟨_, _, e3, xg, er.kk_NoTree_NoNumber, ⟨fun h => nb h, fun _ => ⟨_, _, e3, xg, er.kk_NoTree_NoFit, ⟨fun h => nb h, fun _ => ⟨_, _, e3, xg, er.kk_NoTree_NoRow, ⟨fun h => nb h, fun _ => ?_⟩⟩⟩⟩⟩⟩
      refine ⟨_, _, e3, xg, er.kk_NoTree_NoStretch, ⟨fun h => nb h, fun _ => ⟨_, _, e3, xg, er.kk_NoTree_NoTable, ⟨fun h => nb h, fun _ => ⟨_, _, e3, xg, er.kk_NoTree_NoPlayer, ⟨fun h => nb h, fun _ => ?_⟩⟩⟩⟩⟩⟩
      exact ⟨_, _, e3, xg, er.kk_NoTree_NoTree, ⟨fun _ => ⟨_, _, e3, xg, er.kk_NoTree_LadderError, ⟨fun _ => ⟨_, _, e3, xg, er.kv_NoTree, q⟩, fun h => nb h⟩⟩, fun h => nb h⟩⟩
def dCatN : R2 := fun x y H Q => match x, y with
  | .ref l, .ref b => ∃ xs zs, H l = some (.lst xs) ∧ H b = some (.lst zs) ∧ xs.length + zs.length ≤ 1000 ∧ ∀ p, H p = none → Q (.ref p) (upd H p (.lst (xs ++ zs)))
  | _, _ => False
theorem o_catN {X : Cx} : OpR X (binaryOp .Add) dCatN := by
  intro pins s σ H x y v u Q I rx ry q
  cases x <;> cases y <;> first
    | exact False.elim q
    | (obtain ⟨xs, zs, h1, h2, h3, q⟩ := q
       exact op_cat _ _ _ _ _ _ _ _ _ I rx ry ⟨_, _, xs, zs, rfl, rfl, h1, h2, Nat.le_trans h3 (by decide), q⟩)
def WtAt (H : Hp) (v : V) : Wt → Prop
  | .tree d => ∃ p, v = .ref p ∧ H p = some (.tup [.str (Str.ofString "tree"), .int (d : Int)])
  | .sg c => ∃ p s, v = .ref p ∧ H p = some (.tup [.str s, .int 0]) ∧ co s = [c]
theorem WtAt.up {H H' : Hp} (k : Kt H H') {v : V} : ∀ {w : Wt}, WtAt H v w → WtAt H' v w
  | .tree _, ⟨p, e, h⟩ => ⟨p, e, k _ _ h⟩
  | .sg _, ⟨p, s, e, h, c⟩ => ⟨p, s, e, k _ _ h, c⟩
theorem flat_len {w : List Nat} : ∀ {l : List (List Nat)}, w ∈ l → w.length ≤ l.flatten.length
  | a :: l, h => by
    rw [List.flatten_cons, List.length_append]
    rcases List.mem_cons.mp h with rfl | h
    · omega
    · have := flat_len h
      omega
theorem in_cos {x : Str} {l : List Str} : x ∈ l ↔ co x ∈ l.map co := by
  constructor
  · exact fun h => List.mem_map.mpr ⟨x, h, rfl⟩
  · intro h
    obtain ⟨y, hy, e⟩ := List.mem_map.mp h
    rw [← co_inj e]
    exact hy
def sp_l_is_tree (K : PySem.W.Frag) (ns : List Int) : Sp := fun vs H Q _ => match vs with
  | [.str x] => x.length ≤ 100 ∧ ∀ H', Same H H' → Q (.bl (auto (words (co x) []) [.tree 0] [])) H'
  | _ => False
theorem sc_l_is_tree : FnScope ["_law_text_here", "_law_left", "_law_names", "_law_word", "_law_want", "_law_deep"] ["_law_text_here"] (defScope s_l_is_tree) := ⟨rfl, rfl, rfl, by decide +kernel, rfl, by decide +kernel, by decide +kernel⟩
theorem ok_l_is_tree (d : Dfn K mg "_law_is_tree" s_l_is_tree ["_law_text_here"]) (er : Errs K mg c_LadderError c_NoBook c_NoFit c_NoGame c_NoNumber c_NoPlayer c_NoRow c_NoStretch c_NoTable c_NoTree c_NoWorth) (n_len : mg "len" = none)  (c_l_words : Cal P w K mg base "_law_words" ["_law_text_here"] 1 (sp_l_words K ns)) (c_l_is_name : Cal P w K mg base "_law_is_name" ["_law_word"] 1 (sp_l_is_name K ns)) : Cal P w K mg base "_law_is_tree" ["_law_text_here"] 2 (sp_l_is_tree K ns) := by
  refine d.cal (k := 1) sc_l_is_tree (fun vs H Q E h => ?_) (fun f cdv A outer s H vs Q E hr h => ?_)
  · match vs, h with
    | [.str x], _ => rfl
  · match vs, h with
    | [.str x], ⟨hz, q⟩ =>
      refine ⟨_, (@pss_cons _ _ _ _ _ (@ps_set _ _ (1) _ _ _ _ sc_l_is_tree.nd rfl (by first | exact Or.inl rfl | exact Or.inr rfl) (@pe_lst _ _ _ _ (@pa_cons _ _ _ _ _ (@e_tup _ _ _ _ _ (@pa_cons _ _ _ _ _ pe_str (@pa_cons _ _ _ _ _ pe_int pa_nil (by rfl)) (by rfl))) pa_nil (by rfl))) (by rfl) (by first | exact .inl rfl | exact .inr rfl | assumption)) (@pss_cons _ _ _ _ _ (@ps_set _ _ (2) _ _ _ _ sc_l_is_tree.nd rfl (by first | exact Or.inl rfl | exact Or.inr rfl) (@pe_lst _ _ _ _ pa_nil) (by rfl) (by first | exact .inl rfl | exact .inr rfl | assumption)) (@pss_cons _ _ _ _ _ (@ps_for _ _ _ _ _ _ _ _ PassesOwn.never rfl (@pi_list _ _ _ _ (@e_call _ _ _ _ _ _ _ _ _ _ _ c_l_words hr (by decide) (by rfl) (@pa_cons _ _ _ _ _ (dv 0) pa_nil (by rfl)) (by decide) (by rfl) (by rfl))) (@pg_name _ _ (3) _ sc_l_is_tree.nd rfl (by first | exact Or.inl rfl | exact Or.inr rfl) (by first | exact .inl rfl | exact .inr rfl | assumption)) (@pss_cons _ _ _ _ _ (@s_if _ _ _ _ _ _ _ _ (@t_cmp _ _ _ _ _ _ _ _ o_eq (@pe_callB _ _ _ _ _ _ _ _ _ c_len (by rfl) n_len (by decide +kernel) (@pa_cons _ _ _ _ _ (dv 1) pa_nil (by rfl)) (by decide) (by decide) (by rfl) (by rfl)) pe_int (@nomark _ _ (by decide) (by decide))) (@pss_one _ _ _ (@ps_ret _ _ _ _ pe_bl)) pss_nil) (@pss_cons _ _ _ _ _ (@ps_asg _ _ _ _ _ _ (@pe_bm0 _ _ _ _ _ _ _ _ _ PySem.F.plainAttrs_list PySem.F.slot_list_pop PySem.F.type_list_pop mt_pop (dv 1) (by rfl) (by rfl)) (@pg_tup _ _ _ _ _ _ rfl (@pgs_cons _ _ _ _ _ (@pg_name _ _ (4) _ sc_l_is_tree.nd rfl (by first | exact Or.inl rfl | exact Or.inr rfl) (by first | exact .inl rfl | exact .inr rfl | assumption)) (@pgs_cons _ _ _ _ _ (@pg_name _ _ (5) _ sc_l_is_tree.nd rfl (by first | exact Or.inl rfl | exact Or.inr rfl) (by first | exact .inl rfl | exact .inr rfl | assumption)) pgs_nil (by rfl)) (by rfl)) (by rfl) (by rfl)) (by rfl) (by rfl) (by rfl)) (@pss_one _ _ _ (@s_if _ _ _ _ _ _ _ _ (@t_cmp _ _ _ _ _ _ _ _ o_eq (dv 4) pe_str (@nomark _ _ (by decide) (by decide))) (@pss_one _ _ _ (@s_if _ _ _ _ _ _ _ _ (@L2.PW.pt _ _ _ (@w_and _ _ _ _ _ _ _ (@t_cmp _ _ _ _ _ _ _ _ o_eq (dv 3) pe_str (@nomark _ _ (by decide) (by decide))) (@pw_and1 _ _ _ _ (@t_cmp _ _ _ _ _ _ _ _ o_lt (dv 5) pe_int (@nomark _ _ (by decide) (by decide)))))) (@pss_one _ _ _ (@ps_set _ _ (1) _ _ _ _ sc_l_is_tree.nd rfl (by first | exact Or.inl rfl | exact Or.inr rfl) (@pe_op _ _ _ _ _ _ _ _ o_catN (dv 1) (@e_lstQ _ _ _ _ (@qa_cons _ _ _ _ _ _ _ (@e_tup _ _ _ _ _ (@pa_consC _ _ _ _ _ _ _ pe_str (@pa_consC _ _ _ _ _ _ _ pe_int pa_nil))) (@qa_cons _ _ _ _ _ _ _ (@e_tup _ _ _ _ _ (@pa_consC _ _ _ _ _ _ _ pe_str (@pa_cons _ _ _ _ _ (@pe_op _ _ _ _ _ _ _ _ o_add (dv 5) pe_int) pa_nil (by rfl)))) (@qa_cons _ _ _ _ _ _ _ (@e_tup _ _ _ _ _ (@pa_consC _ _ _ _ _ _ _ pe_str (@pa_consC _ _ _ _ _ _ _ pe_int pa_nil))) (@qa_cons _ _ _ _ _ _ _ (@e_tup _ _ _ _ _ (@pa_consC _ _ _ _ _ _ _ pe_str (@pa_cons _ _ _ _ _ (@pe_op _ _ _ _ _ _ _ _ o_add (dv 5) pe_int) pa_nil (by rfl)))) qa_nil)))))) (by rfl) (by first | exact .inl rfl | exact .inr rfl | assumption))) (@pss_one _ _ _ (@s_if _ _ _ _ _ _ _ _ (@L2.PW.pt _ _ _ (@w_and _ _ _ _ _ _ _ (@t_val _ _ _ (@e_call _ _ _ _ _ _ _ _ _ _ _ c_l_is_name hr (by decide) (by rfl) (@pa_cons _ _ _ _ _ (dv 3) pa_nil (by rfl)) (by decide) (by rfl) (by rfl)) (by intro _; rfl)) (@pw_and1 _ _ _ _ (@t_cmp _ _ _ _ _ _ _ _ (show OpR _ _ (dNotInS K) from o_notin) (dv 3) (dv 2) (by with_unfolding_all rfl))))) (@pss_one _ _ _ (@ps_expr _ _ _ _ (@pe_bm _ _ _ _ _ _ _ _ _ _ _ _ PySem.F.plainAttrs_list PySem.F.slot_list_append PySem.F.type_list_append mt_append (dv 2) (@pa_cons _ _ _ _ _ (dv 3) pa_nil (by rfl)) (by rfl) (by rfl) (by rfl) (by rfl) (by rfl)) (by rfl))) (@pss_one _ _ _ (@ps_ret _ _ _ _ pe_bl)))))) (@pss_one _ _ _ (@s_if _ _ _ _ _ _ _ _ (@t_cmp _ _ _ _ _ _ _ _ o_ne (dv 3) (dv 4) (@nomark _ _ (by decide) (by decide))) (@pss_one _ _ _ (@ps_ret _ _ _ _ pe_bl)) pss_nil)))))) (by intro _; rfl)) (@pss_one _ _ _ (@ps_ret _ _ _ _ (@e_and _ _ _ _ _ _ _ (@pe_cmpR _ _ _ _ _ _ _ _ o_eq (@pe_callB _ _ _ _ _ _ _ _ _ c_len (by rfl) n_len (by decide +kernel) (@pa_cons _ _ _ _ _ (dv 1) pa_nil (by rfl)) (by decide) (by decide) (by rfl) (by rfl)) pe_int (@nomark _ _ (by decide) (by decide))) (@pe_one _ _ _ _ _ (@pe_cmpR _ _ _ _ _ _ _ _ o_le (@pe_callB _ _ _ _ _ _ _ _ _ c_len (by rfl) n_len (by decide +kernel) (@pa_cons _ _ _ _ _ (dv 2) pa_nil (by rfl)) (by decide) (by decide) (by rfl) (by rfl)) pe_int (@nomark _ _ (by decide) (by decide)))))))))), ?_⟩
      intro T0 H0 s0 e0
      refine ⟨by show 1 ≤ sizeLine; decide, fun A hA => ⟨by decide, fun N hN => ?_⟩⟩
      have sA : Same H0 (upd H0 A (.lst [.ref T0])) := same_upd hA
      have sN : Same (upd H0 A (.lst [.ref T0])) (upd (upd H0 A (.lst [.ref T0])) N (.lst [])) := same_upd hN
      have hA0 : H A = none := none_back s0 hA
      have hN0 : H N = none := none_back (s0.trans sA) hN
      have nAN : A ≠ N := fun z => by
        rw [z, upd_same] at hN
        cases hN
      have eA : upd (upd H0 A (.lst [.ref T0])) N (.lst []) A = some (.lst [.ref T0]) := sN _ _ upd_same
      have eN : upd (upd H0 A (.lst [.ref T0])) N (.lst []) N = some (.lst (([] : List Str).map V.str)) := upd_same
      have e0 : upd (upd H0 A (.lst [.ref T0])) N (.lst []) T0 = some (.tup [.str (Str.ofString "tree"), .int 0]) := (sA.trans sN) _ _ e0
      have s1 : Same H (upd (upd H0 A (.lst [.ref T0])) N (.lst [])) := s0.trans (sA.trans sN)
      generalize upd (upd H0 A (.lst [.ref T0])) N (.lst []) = H1 at eA eN e0 s1
      clear sA sN hA hN s0
      refine ⟨hz, fun D ws H2 s2 hD e2 hw lw => ?_⟩
      have nDA : D ≠ A := fun z => by
        rw [z, eA] at hD
        cases hD
      have nDN : D ≠ N := fun z => by
        rw [z, eN] at hD
        cases hD
      have no : auto (words (co x) []) [.tree 0] [] = false → ∀ H', Same H H' → Q (.bl false) H' := fun e H' s => by
        have := q H' s
        rw [e] at this
        exact this
      refine ⟨D, rfl, ⟨_, SqL.of e2⟩, for_list (K := K) (a := D) (xs := ws.map V.str) (fun i σ H' => ∃ (A : Addr) (vs : List V) (stk : List Wt) (nm : List Str) (o3 o4 o5 : Option V), σ = [some (.str x), some (.ref A), some (.ref N), o3, o4, o5] ∧ Same H H' ∧ (H A = none ∧ A ≠ N ∧ D ≠ A) ∧ H' D = some (.lst (ws.map V.str)) ∧ H' A = some (.lst vs) ∧ H' N = some (.lst (nm.map V.str)) ∧ All2 (WtAt H') vs stk.reverse ∧ (i ≤ ws.length ∧ stk.length ≤ 1 + 3 * i ∧ nm.length ≤ i) ∧ auto ((ws.drop i).map co) stk (nm.map co) = auto (words (co x) []) [.tree 0] []) ⟨A, [.ref T0], [.tree 0], [], none, none, none, rfl, s1.trans s2, ⟨hA0, nAN, nDA⟩, e2, s2 _ _ eA, s2 _ _ eN, .cons ⟨T0, rfl, s2 _ _ e0⟩ .nil, ⟨Nat.zero_le _, Nat.le_refl _, Nat.le_refl _⟩, by rw [List.drop_zero, hw]; rfl⟩ (fun i σ H' _ ⟨_, _, _, _, _, _, _, _, _, _, e, _⟩ => SqL.of e) ?_ ?_⟩
      rotate_left
      · rintro σ H3 ⟨A, vs, stk, nm, o3, o4, o5, rfl, s3, ⟨hA, nAN, nDA⟩, eD, eA, eN, a3, ⟨_, ls, ln⟩, ha⟩
        rw [List.length_map] at ha ln ls
        rw [List.drop_length] at ha
        have ha : (stk.isEmpty && decide ((nm.map co).length ≤ 8)) = auto (words (co x) []) [.tree 0] [] := ha
        have lv' : vs.length = stk.length := by rw [a3.len, List.length_reverse]
        have qq := q H3 s3
        rw [← ha, List.length_map] at qq
        refine ⟨_, .inl (SqL.of eA), ⟨fun h => ⟨_, .inl (SqL.of eN), ?_⟩, fun h => ?_⟩⟩
        · have h : (vs.length : Int) = 0 := of_decide_eq_true h
          rw [List.length_eq_zero_iff.mp (show stk.length = 0 by omega)] at qq
          show Q (.bl (decide (((nm.map V.str).length : Int) ≤ 8))) H3
          rw [List.length_map, show decide ((nm.length : Int) ≤ 8) = decide (nm.length ≤ 8) by simp only [decide_eq_decide]; omega]
          exact qq
        · have h : ¬ (vs.length : Int) = 0 := of_decide_eq_false h
          cases stk with
          | nil => exact absurd (by rw [lv']; rfl) h
          | cons w r => exact qq
      rintro i y σ H3 hy ⟨A, vs, stk, nm, o3, o4, o5, rfl, s3, ⟨hA, nAN, nDA⟩, eD, eA, eN, a3, ⟨li, ls, ln⟩, ha⟩
      rw [List.getElem?_map] at hy
      obtain ⟨w, hw', rfl⟩ := Option.map_eq_some_iff.mp hy
      have il : i < ws.length := (List.getElem?_eq_some_iff.mp hw').1
      have dc : ws.drop i = w :: ws.drop (i + 1) := by
        obtain ⟨hi, e⟩ := List.getElem?_eq_some_iff.mp hw'
        rw [← List.getElem_cons_drop hi, e]
      rw [dc, List.map_cons] at ha
      have lv' : vs.length = stk.length := by rw [a3.len, List.length_reverse]
      refine ⟨_, .inl (SqL.of eA), ⟨fun h => ?_, fun h => ?_⟩⟩
      · have h : (vs.length : Int) = 0 := of_decide_eq_true h
        rw [List.length_eq_zero_iff.mp (show stk.length = 0 by omega)] at ha
        exact no ha.symm H3 s3
      have h : ¬ (vs.length : Int) = 0 := of_decide_eq_false h
      cases stk with
      | nil => exact absurd (by rw [lv']; rfl) h
      | cons k stk =>
        rw [List.reverse_cons] at a3
        obtain ⟨vs', z, rfl, a', hz'⟩ := a2_unsnoc a3
        refine ⟨.inl ⟨rfl, _, SqL.of eA⟩, A, _, z, rfl, rfl, eA, by simp, ?_⟩
        rw [show (vs' ++ [z]).dropLast = vs' from List.dropLast_concat]
        have kt : Kt H3 (upd H3 A (.lst vs')) := kt_upd eA
        have s4 : Same H (upd H3 A (.lst vs')) := same_app' s3 hA
        have eD4 : upd H3 A (.lst vs') D = some (.lst (ws.map V.str)) := by rw [upd_ne nDA]; exact eD
        have eN4 : upd H3 A (.lst vs') N = some (.lst (nm.map V.str)) := by rw [upd_ne (Ne.symm nAN)]; exact eN
        have eA4 : upd H3 A (.lst vs') A = some (.lst vs') := upd_same
        have a4 : All2 (WtAt (upd H3 A (.lst vs'))) vs' stk.reverse := a'.imp fun v w r => r.up kt
        have hz4 := hz'.up kt
        generalize upd H3 A (.lst vs') = H4 at s4 eD4 eN4 eA4 a4 hz4
        clear kt eD eN eA a' hz' a3
        rw [List.length_append] at lv'
        have ls : stk.length + 1 ≤ 1 + 3 * i := ls
        have lv4 : vs'.length = stk.length := by rw [a4.len, List.length_reverse]
        have zw : w.length ≤ 1000 := by
          have : co w ∈ words (co x) [] := by
            rw [← hw]
            exact List.mem_map.mpr ⟨w, List.mem_of_getElem? hw', rfl⟩
          have := flat_len this
          rw [words_flat, List.nil_append, co_len, co_len] at this
          omega
        cases k with
        | sg c =>
          obtain ⟨p, s1', rfl, ep, es⟩ := hz4
          refine ⟨p, _, rfl, SqT.of ep, rfl, _, _, rfl, _, _, rfl, rfl, ⟨fun h => ?_, fun _ => ⟨fun h => ?_, fun h => ?_⟩⟩⟩
          · have h : s1' = Str.ofString "tree" := of_decide_eq_true h
            rw [h] at es
            have z := congrArg List.length es
            rw [show co (Str.ofString "tree") = [116, 114, 101, 101] by decide +kernel] at z
            cases z
          · have h : ¬ w = s1' := by simpa using h
            rw [auto, if_neg fun z => h (co_inj (z.trans es.symm))] at ha
            exact no ha.symm H4 s4
          · have h : w = s1' := by simpa using h
            rw [auto, if_pos (by rw [h]; exact es)] at ha
            exact ⟨A, vs', stk, nm, _, _, _, rfl, s4, ⟨hA, nAN, nDA⟩, eD4, eA4, eN4, a4, ⟨il, by omega, by omega⟩, ha⟩
        | tree d =>
          obtain ⟨p, rfl, ep⟩ := hz4
          refine ⟨p, _, rfl, SqT.of ep, rfl, _, _, rfl, _, _, rfl, rfl, ⟨fun _ => ?_, fun h => absurd rfl (of_decide_eq_false h)⟩⟩
          refine ⟨fun h1 => ⟨fun h2 => ?_, fun h2 => ?_⟩, fun h1 => ⟨fun h => nb h, fun _ => ?_⟩⟩
          · have h1 : w = Str.ofString "(" := of_decide_eq_true h1
            have h2 : (d : Int) < 7 := of_decide_eq_true h2
            rw [auto, if_pos ⟨by rw [h1]; exact co40, by omega⟩] at ha
            intro T1 G1 g1 f1 T2 G2 g2 f2 T3 G3 g3 f3 T4 G4 g4 f4 P G5 g5 f5
            have f4 := g5 _ _ f4
            have f3 := (g4.trans g5) _ _ f3
            have f2 := (g3.trans (g4.trans g5)) _ _ f2
            have f1 := (g2.trans (g3.trans (g4.trans g5))) _ _ f1
            have g := g1.trans (g2.trans (g3.trans (g4.trans g5)))
            clear g1 g2 g3 g4 g5
            have eA5 := g _ _ eA4
            refine ⟨_, _, eA5, f5, (by show vs'.length + 4 ≤ 1000; omega), fun p2 hp2 => ?_⟩
            have g6 : Same G5 (upd G5 p2 (.lst (vs' ++ [.ref T1, .ref T2, .ref T3, .ref T4]))) := same_upd hp2
            have gg := g.trans g6
            have hp0 : H p2 = none := none_back (s4.trans g) hp2
            have n1 : p2 ≠ N := fun z => by
              rw [z, g _ _ eN4] at hp2
              cases hp2
            have n2 : D ≠ p2 := fun z => by
              rw [← z, g _ _ eD4] at hp2
              cases hp2
            refine ⟨p2, _, .tree (d + 1) :: .sg 32 :: .tree (d + 1) :: .sg 41 :: stk, nm, _, _, _, rfl, s4.trans gg, ⟨hp0, n1, n2⟩, gg _ _ eD4, upd_same, gg _ _ eN4, ?_, ⟨il, ?_, by omega⟩, ha⟩
            · have er' : (Wt.tree (d + 1) :: .sg 32 :: .tree (d + 1) :: .sg 41 :: stk).reverse = stk.reverse ++ [.sg 41, .tree (d + 1), .sg 32, .tree (d + 1)] := by simp
              rw [er']
              exact (a4.imp fun v w r => r.up (kt_of gg)).app (.cons ⟨T1, _, rfl, g6 _ _ f1, co41⟩ (.cons ⟨T2, rfl, g6 _ _ f2⟩ (.cons ⟨T3, _, rfl, g6 _ _ f3, co32⟩ (.cons ⟨T4, rfl, g6 _ _ f4⟩ .nil))))
            · show stk.length + 4 ≤ 1 + 3 * (i + 1)
              omega
          all_goals
            have hh : ¬ (co w = [40] ∧ d < 7) := by
              rintro ⟨c1, c2⟩
              first
                | exact of_decide_eq_false h2 (show (d : Int) < 7 by omega)
                | exact of_decide_eq_false h1 (co_inj (c1.trans co40.symm))
            rw [auto, if_neg hh] at ha
            refine ⟨zw, ⟨fun hn => ⟨_, .inl (SqL.of eN4), rfl, flat_strs _, ⟨fun hi => ?_, fun hi => ?_⟩⟩, fun hn => ⟨fun h => nb h, fun _ => ?_⟩⟩⟩
            · have hi : w ∉ nm := by
                rw [in_strs] at hi
                simpa using hi
              rw [if_pos ⟨hn, fun z => hi (in_cos.mpr z)⟩] at ha
              refine ⟨.inl ⟨rfl, _, SqL.of eN4⟩, N, _, _, rfl, rfl, eN4, ?_, A, vs', stk, nm ++ [w], _, _, _, rfl, same_app' s4 hN0, ⟨hA, nAN, nDA⟩, ?_, ?_, ?_, a4.imp fun v w r => r.up (kt_upd eN4), ⟨il, by omega, by rw [List.length_append]; show nm.length + 1 ≤ i + 1; omega⟩, ?_⟩
              · rw [List.length_map]
                exact Nat.lt_of_le_of_lt (show nm.length ≤ 201 by omega) (by decide)
              · rw [upd_ne nDN]
                exact eD4
              · rw [upd_ne nAN]
                exact eA4
              · rw [upd_same, List.map_append]
                rfl
              · rw [List.map_append]
                exact ha
            · have hi : w ∈ nm := by
                rw [in_strs] at hi
                simpa using hi
              rw [if_neg fun z => z.2 (in_cos.mp hi)] at ha
              exact no ha.symm H4 s4
            · rw [if_neg fun z => by rw [hn] at z; cases z.1] at ha
              exact no ha.symm H4 s4
def sp_l_told (K : PySem.W.Frag) (ns : List Int) : Sp := fun vs H Q _ => match vs with
  | [v, .bl b] => ((Kd H v ∧ ∀ x, v ≠ .str x) ∨ ∃ x, v = .str x ∧ x.length ≤ 100 ∧ ∀ c ∈ co x, c < 123) ∧ ∀ H', Same H H' → Q (.bl true) H'
  | _ => False
theorem sc_l_told : FnScope ["_law_text_here", "_law_base", "_law_found", "_law_caught", "_law_error"] ["_law_text_here", "_law_base"] (defScope s_l_told) := ⟨rfl, rfl, rfl, by decide +kernel, rfl, by decide +kernel, by decide +kernel⟩
theorem ok_l_told (d : Dfn K mg "_law_told" s_l_told ["_law_text_here", "_law_base"]) (er : Errs K mg c_LadderError c_NoBook c_NoFit c_NoGame c_NoNumber c_NoPlayer c_NoRow c_NoStretch c_NoTable c_NoTree c_NoWorth) (n_isinstance : mg "isinstance" = none) (n_str : mg "str" = none)  (c_l_no_tree : Cal P w K mg base "_law_no_tree" ["_law_error"] 1 (sp_l_no_tree K ns)) (c_l_is_tree : Cal P w K mg base "_law_is_tree" ["_law_text_here"] 2 (sp_l_is_tree K ns)) (c_show_tree : Cal P w K mg base "show_tree" ["tree"] 10 (sp_show_tree K ns)) (c_read_tree : Cal P w K mg base "read_tree" ["text"] 11 (sp_read_tree K ns)) : Cal P w K mg base "_law_told" ["_law_text_here", "_law_base"] 12 (sp_l_told K ns) := by
  refine d.cal (k := 11) sc_l_told (fun vs H Q E h => ?_) (fun f cdv A outer s H vs Q E hr h => ?_)
  · match vs, h with
    | [v, .bl b], _ => rfl
  · match vs, h with
    | [v, .bl b], ⟨hv, q⟩ =>
      refine ⟨_, (@pss_cons _ _ _ _ _ (@ps_set _ _ (2) _ _ _ _ sc_l_told.nd rfl (by first | exact Or.inl rfl | exact Or.inr rfl) pe_non (by rfl) (by first | exact .inl rfl | exact .inr rfl | assumption)) (@pss_cons _ _ _ _ _ (@ps_set _ _ (3) _ _ _ _ sc_l_told.nd rfl (by first | exact Or.inl rfl | exact Or.inr rfl) pe_non (by rfl) (by first | exact .inl rfl | exact .inr rfl | assumption)) (@ss_cutE _ _ _ _ _ (@s_if _ _ _ _ _ _ _ _ (@t_val _ _ _ (dv 1) (by intro _; rfl)) (@pss_one _ _ _ (ps_tryA (n := 4) (i := 2) ⟨rfl, rfl, rfl⟩ c_read_tree hr (by decide) (by rfl) (@pa_cons _ _ _ _ _ (dv 0) pa_nil (by rfl)) rfl rfl (by rfl) er.b_LadderError er.x_LadderError.cat sc_l_told.nd rfl rfl (fun v => (@pss_one _ _ _ (@ps_set _ _ (3) _ _ _ _ sc_l_told.nd rfl (by first | exact Or.inl rfl | exact Or.inr rfl) (dv 4) (by rfl) (by first | exact .inl rfl | exact .inr rfl | assumption)))))) (@pss_one _ _ _ (ps_tryA (n := 4) (i := 2) ⟨rfl, rfl, rfl⟩ c_read_tree hr (by decide) (by rfl) (@pa_cons _ _ _ _ _ (dv 0) pa_nil (by rfl)) rfl rfl (by rfl) er.b_NoTree er.x_NoTree.cat sc_l_told.nd rfl rfl (fun v => (@pss_one _ _ _ (@ps_set _ _ (3) _ _ _ _ sc_l_told.nd rfl (by first | exact Or.inl rfl | exact Or.inr rfl) (dv 4) (by rfl) (by first | exact .inl rfl | exact .inr rfl | assumption))))))) (@pss_cons _ _ _ _ _ (@s_if _ _ _ _ _ _ _ _ (@L2.PW.pt _ _ _ (@w_and _ _ _ _ _ _ _ (@t_val _ _ _ (@pe_callB _ _ _ _ _ _ _ _ _ c_isi (by rfl) n_isinstance (by decide +kernel) (@pa_cons _ _ _ _ _ (dv 0) (@pa_cons _ _ _ _ _ (e_ty "str" (by rfl) n_str (by decide +kernel)) pa_nil (by rfl)) (by rfl)) (by decide) (by decide) (by rfl) (by rfl)) (by intro _; rfl)) (@pw_and1 _ _ _ _ (@t_val _ _ _ (@e_call _ _ _ _ _ _ _ _ _ _ _ c_l_is_tree hr (by decide) (by rfl) (@pa_cons _ _ _ _ _ (dv 0) pa_nil (by rfl)) (by decide) (by rfl) (by rfl)) (by intro _; rfl))))) (@pss_one _ _ _ (@ps_ret _ _ _ _ (@e_and _ _ _ _ _ _ _ (@e_isN _ _ _ _ _ _ (dv 3)) (@pe_one _ _ _ _ _ (@pe_cmpR _ _ _ _ _ _ _ _ o_eq (@e_call _ _ _ _ _ _ _ _ _ _ _ c_show_tree hr (by decide) (by rfl) (@pa_cons _ _ _ _ _ (dv 2) pa_nil (by rfl)) (by decide) (by rfl) (by rfl)) (dv 0) (@nomark _ _ (by decide) (by decide))))))) pss_nil) (@pss_one _ _ _ (@ps_ret _ _ _ _ (@e_and _ _ _ _ _ _ _ (@e_isN _ _ _ _ _ _ (dv 2)) (@e_and _ _ _ _ _ _ _ (@e_notN _ _ _ _ _ _ (dv 3)) (@pe_one _ _ _ _ _ (@e_call _ _ _ _ _ _ _ _ _ _ _ c_l_no_tree hr (by decide) (by rfl) (@pa_cons _ _ _ _ _ (dv 3) pa_nil (by rfl)) (by decide) (by rfl) (by rfl))))))))))), ?_⟩
      have xg := er.x_NoTree
      refine ⟨fun σ H' => Same H H' ∧ ∃ fd cg : V, σ = [some v, some (.bl b), some fd, some cg, none] ∧ ((fd = .non ∧ (∃ p C, cg = .ref p ∧ PySem.W.nsIn K mainGlobals "NoTree" = some (some (.ref C)) ∧ H' p = some (.ext (ExcAt p C))) ∧ ∀ x, v = .str x → ¬ ∃ t, co x = showT t ∧ VT t) ∨ (∃ x t, v = .str x ∧ co x = showT t ∧ VT t ∧ TrAt H' t fd ∧ cg = .non)), ?_, ?_⟩
      · refine ⟨fun _ => ?_, fun _ => ?_⟩
        all_goals
          rcases hv with ⟨kd, nv⟩ | ⟨x, rfl, hz, lt⟩
          · refine .inl ⟨kd, nv, fun H1 s1 C hC => ?_⟩
            have hC' := ns_inj hC er.y_NoTree
            subst hC'
            exact ⟨_, rfl, xg, (by first | exact er.km_NoTree_LadderError | exact er.km_NoTree_NoTree), fun a H3 s3 e3 => ⟨s1.trans s3, .non, .ref a, rfl, .inl ⟨rfl, ⟨a, _, rfl, hC, e3⟩, fun x e => absurd e (nv x)⟩⟩⟩
          · refine .inr ⟨x, rfl, hz, lt, fun hnt H1 s1 C hC => ?_, fun t h1 h2 v' H1 s1 t1 => ⟨s1, v', .non, rfl, .inr ⟨x, t, rfl, h1, h2, t1, rfl⟩⟩⟩
            have hC' := ns_inj hC er.y_NoTree
            subst hC'
            exact ⟨_, rfl, xg, (by first | exact er.km_NoTree_LadderError | exact er.km_NoTree_NoTree), fun a H3 s3 e3 => ⟨s1.trans s3, .non, .ref a, rfl, .inl ⟨rfl, ⟨a, _, rfl, hC, e3⟩, fun x' e => by cases e; exact hnt⟩⟩⟩
      rintro σ H1 ⟨s1, fd, cg, rfl, hc⟩
      rcases hc with ⟨rfl, ⟨p, C, rfl, hC, ep⟩, hn⟩ | ⟨x, t, rfl, h1, h2, t1, rfl⟩
      · have ret : ∀ H2, Same H1 H2 → tRet (dAndV (tIsN (dVar 2)) (dAndV (tNotN (dVar 3)) (dCall (sp_l_no_tree K ns) (tCons (dVar 3) tNil)))) { nx := fun x H' => Q V.non H', rt := Q } [some v, some (.bl b), some .non, some (.ref p), none] H2 := fun H2 s2 => ⟨fun _ => ⟨fun _ => ⟨C, ⟨hC, s2 _ _ ep⟩, q _ (s1.trans s2)⟩, fun h => (by simp at h)⟩, fun h => (by simp at h)⟩
        rcases hv with ⟨kd, nv⟩ | ⟨x, rfl, hz, lt⟩
        · have kd := kd.up s1
          have ret := ret H1 (Same.refl _)
          cases v with
          | int _ => exact ⟨false, rfl, ⟨fun h => nb h, fun _ => ⟨fun h => nb h, fun _ => ret⟩⟩⟩
          | bl _ => exact ⟨false, rfl, ⟨fun h => nb h, fun _ => ⟨fun h => nb h, fun _ => ret⟩⟩⟩
          | non => exact ⟨false, rfl, ⟨fun h => nb h, fun _ => ⟨fun h => nb h, fun _ => ret⟩⟩⟩
          | str x => exact absurd rfl (nv x)
          | ref p =>
            obtain ⟨u, t, h1, h2, h3⟩ := kd
            exact ⟨u, false, t, h1, h2, ty_str h2, ⟨fun h => nb h, fun _ => ⟨fun h => nb h, fun _ => ret⟩⟩⟩
          | flt _ => exact kd.elim
          | byt _ => exact kd.elim
          | ty _ => exact kd.elim
        · refine ⟨true, rfl, ⟨fun _ => ⟨hz, fun H2 s2 => ?_⟩, fun h => nb h⟩⟩
          have ea : auto (words (co x) []) [.tree 0] [] = false := Bool.eq_false_iff.mpr fun z => hn x rfl (law_iff.mp z)
          rw [ea]
          exact ⟨fun h => nb h, fun _ => ret H2 s2⟩
      · rcases hv with ⟨kd, nv⟩ | ⟨x', e', hz, lt⟩
        · exact absurd rfl (nv x)
        cases e'
        refine ⟨true, rfl, ⟨fun _ => ⟨hz, fun H2 s2 => ?_⟩, fun h => nb h⟩⟩
        rw [law_iff.mpr ⟨t, h1, h2⟩]
        refine ⟨fun _ => ⟨fun _ => ⟨t, ⟨tr_up (kt_of s2) _ _ t1, h2.ok⟩, fun y H3 s3 hy => ?_⟩, fun h => (by simp at h)⟩, fun h => nb h⟩
        have e : y = x := co_inj (hy.trans h1.symm)
        show Q (.bl (decide (y = x))) H3
        rw [decide_eq_true e]
        exact q H3 (s1.trans (s2.trans s3))
def BS (xs : List Int) : Prop := ∀ x ∈ xs, 0 ≤ x ∧ x < 2147483647
theorem BS.at {xs : List Int} (h : BS xs) {i : Nat} (hi : i < xs.length) : ∃ x, atI (xs.map V.int) (i : Int) = some (.int x) ∧ 0 ≤ x ∧ x < 2147483647 := by
  have hm := h xs[i] (List.getElem_mem hi)
  refine ⟨xs[i], ?_, hm.1, hm.2⟩
  refine atI_nat ?_
  rw [List.getElem?_map, List.getElem?_eq_getElem hi]
  rfl
theorem BS.g {xs : List Int} (h : BS xs) (k : Int) (h0 : 0 ≤ k) (h1 : k < xs.length) : ∃ x, atI (xs.map V.int) k = some (.int x) ∧ 0 ≤ x ∧ x < 2147483647 := by
  obtain ⟨i, rfl⟩ := Int.eq_ofNat_of_zero_le h0
  exact h.at (by omega)
def sp_l_stream (K : PySem.W.Frag) (ns : List Int) : Sp := fun vs H Q _ => match vs with
  | [.int c, .int sl, .int m] => ((0 ≤ sl ∧ sl < 1000) ∧ (0 ≤ m ∧ m < 1000)) ∧ ∀ D (xs : List Int) H', Same H H' → H D = none → H' D = some (.lst (xs.map V.int)) → (xs.length : Int) = m → BS xs → Q (.ref D) H'
  | _ => False
theorem sc_l_stream : FnScope ["_law_cell", "_law_salt", "_law_many", "_law_found", "_law_number", "_law_k"] ["_law_cell", "_law_salt", "_law_many"] (defScope s_l_stream) := ⟨rfl, rfl, rfl, by decide +kernel, rfl, by decide +kernel, by decide +kernel⟩
theorem ok_l_stream (d : Dfn K mg "_law_stream" s_l_stream ["_law_cell", "_law_salt", "_law_many"]) (er : Errs K mg c_LadderError c_NoBook c_NoFit c_NoGame c_NoNumber c_NoPlayer c_NoRow c_NoStretch c_NoTable c_NoTree c_NoWorth) (n_range : mg "range" = none)   : Cal P w K mg base "_law_stream" ["_law_cell", "_law_salt", "_law_many"] 1 (sp_l_stream K ns) := by
  refine d.cal (k := 0) sc_l_stream (fun vs H Q E h => ?_) (fun f cdv A outer s H vs Q E hr h => ?_)
  · match vs, h with
    | [.int c, .int sl, .int m], _ => rfl
  · match vs, h with
    | [.int c, .int sl, .int m], ⟨⟨⟨s0, s1⟩, ⟨m0, m1⟩⟩, q⟩ =>
      refine ⟨_, (@pss_cons _ _ _ _ _ (@ps_set _ _ (3) _ _ _ _ sc_l_stream.nd rfl (by first | exact Or.inl rfl | exact Or.inr rfl) (@pe_lst _ _ _ _ pa_nil) (by rfl) (by first | exact .inl rfl | exact .inr rfl | assumption)) (@pss_cons _ _ _ _ _ (@ps_set _ _ (4) _ _ _ _ sc_l_stream.nd rfl (by first | exact Or.inl rfl | exact Or.inr rfl) (@pe_op _ _ _ _ _ _ _ _ o_mod (@pe_op _ _ _ _ _ _ _ _ o_add (@pe_op _ _ _ _ _ _ _ _ o_add (@pe_op _ _ _ _ _ _ _ _ o_mul (@pe_op _ _ _ _ _ _ _ _ o_mod (dv 0) pe_int) pe_int) (@pe_op _ _ _ _ _ _ _ _ o_mul (@pe_op _ _ _ _ _ _ _ _ o_mul (dv 1) (dv 1)) pe_int)) pe_int) pe_int) (by rfl) (by first | exact .inl rfl | exact .inr rfl | assumption)) (@pss_cons _ _ _ _ _ (@ps_for _ _ _ _ _ _ _ _ PassesOwn.never rfl (@pi_range1 _ _ _ _ _ _ (by rfl) n_range (@pa_cons _ _ _ _ _ (dv 2) pa_nil (by rfl)) (by rfl)) (@pg_name _ _ (5) _ sc_l_stream.nd rfl (by first | exact Or.inl rfl | exact Or.inr rfl) (by first | exact .inl rfl | exact .inr rfl | assumption)) (@pss_cons _ _ _ _ _ (@ps_set _ _ (4) _ _ _ _ sc_l_stream.nd rfl (by first | exact Or.inl rfl | exact Or.inr rfl) (@pe_op _ _ _ _ _ _ _ _ o_mod (@pe_op _ _ _ _ _ _ _ _ o_add (@pe_op _ _ _ _ _ _ _ _ o_add (@pe_op _ _ _ _ _ _ _ _ o_add (@pe_op _ _ _ _ _ _ _ _ o_mul (dv 4) (dv 4)) (@pe_op _ _ _ _ _ _ _ _ o_mul pe_int (dv 4))) (dv 5)) (dv 1)) pe_int) (by rfl) (by first | exact .inl rfl | exact .inr rfl | assumption)) (@pss_one _ _ _ (@ps_expr _ _ _ _ (@pe_bm _ _ _ _ _ _ _ _ _ _ _ _ PySem.F.plainAttrs_list PySem.F.slot_list_append PySem.F.type_list_append mt_append (dv 3) (@pa_cons _ _ _ _ _ (dv 4) pa_nil (by rfl)) (by rfl) (by rfl) (by rfl) (by rfl) (by rfl)) (by rfl)))) (by intro _; rfl)) (@pss_one _ _ _ (@ps_ret _ _ _ _ (dv 3)))))), ?_⟩
      refine ⟨by decide, fun D hD => ?_⟩
      refine ⟨(by show (0 : Int) < 2147483647; decide), .inr (.inr ⟨by decide, by decide⟩), .inr (.inl ⟨by omega, by omega⟩), .inr (.inr ⟨by decide, by decide⟩), (by show (0 : Int) < 2147483647; decide), ?_⟩
      have z0 := Int.emod_nonneg (c % 2147483647 * 48271 + sl * sl * 69621 + 11) (show (2147483647 : Int) ≠ 0 by decide)
      have z1 := Int.emod_lt_of_pos (c % 2147483647 * 48271 + sl * sl * 69621 + 11) (show (0 : Int) < 2147483647 by decide)
      refine ⟨m, rfl, by omega, by omega, for_range (lo := 0) (n := m.toNat) (fun i σ H' => ∃ (xs : List Int) (y : Int) (o : Option V), σ = [some (.int c), some (.int sl), some (.int m), some (.ref D), some (.int y), o] ∧ H' = upd H D (.lst (xs.map V.int)) ∧ xs.length = i ∧ BS xs ∧ 0 ≤ y ∧ y < 2147483647)
        ⟨[], _, none, rfl, rfl, rfl, fun _ h => absurd h (by simp), z0, z1⟩ ?_ ?_⟩
      · rintro i σ H' hi ⟨xs, y, o, rfl, rfl, hl, hb, y0, y1⟩
        refine ⟨.inr (.inl ⟨by omega, by omega⟩), .inr (.inl ⟨by decide, by decide⟩), (by show (0 : Int) < 2147483647; decide), ?_⟩
        have w0 := Int.emod_nonneg (y * y + 48271 * y + (0 + (i : Int)) + sl) (show (2147483647 : Int) ≠ 0 by decide)
        have w1 := Int.emod_lt_of_pos (y * y + 48271 * y + (0 + (i : Int)) + sl) (show (0 : Int) < 2147483647 by decide)
        refine ⟨.inl ⟨rfl, _, SqL.of upd_same⟩, D, _, _, rfl, rfl, upd_same, ?_, xs ++ [(y * y + 48271 * y + (0 + (i : Int)) + sl) % 2147483647], _, _, rfl, ?_, ?_, fun x hx => ?_, w0, w1⟩
        · rw [List.length_map, hl]
          exact Nat.lt_of_lt_of_le (show i < 1000 by omega) (by decide)
        · rw [upd_upd, List.map_append]
          rfl
        · rw [List.length_append, hl]
          rfl
        · rcases List.mem_append.mp hx with h | h
          · exact hb x h
          · rw [List.mem_singleton] at h
            subst h
            exact ⟨w0, w1⟩
      · rintro σ H' ⟨xs, y, o, rfl, rfl, hl, hb, y0, y1⟩
        exact q D xs _ (same_upd hD) hD upd_same (by omega) hb
def sp_l_cell_at (K : PySem.W.Frag) (ns : List Int) : Sp := fun vs H Q _ => match vs with
  | [.ref a, .int k] => SqL K H a (ns.map V.int) ∧ 0 ≤ k ∧ ∀ c : Int, Q (.int c) H
  | _ => False
theorem sc_l_cell_at : FnScope ["_law_script", "_law_k"] ["_law_script", "_law_k"] (defScope s_l_cell_at) := ⟨rfl, rfl, rfl, by decide +kernel, rfl, by decide +kernel, by decide +kernel⟩
theorem ok_l_cell_at (d : Dfn K mg "_law_cell_at" s_l_cell_at ["_law_script", "_law_k"]) (er : Errs K mg c_LadderError c_NoBook c_NoFit c_NoGame c_NoNumber c_NoPlayer c_NoRow c_NoStretch c_NoTable c_NoTree c_NoWorth) (n_len : mg "len" = none)   : Cal P w K mg base "_law_cell_at" ["_law_script", "_law_k"] 1 (sp_l_cell_at K ns) := by
  refine d.cal (k := 0) sc_l_cell_at (fun vs H Q E h => ?_) (fun f cdv A outer s H vs Q E hr h => ?_)
  · match vs, h with
    | [.ref a, .int k], _ => rfl
  · match vs, h with
    | [.ref a, .int k], ⟨hS, k0, q⟩ =>
      refine ⟨_, (@pss_cons _ _ _ _ _ (@s_if _ _ _ _ _ _ _ _ (@t_cmp _ _ _ _ _ _ _ _ o_lt (dv 1) (@pe_callB _ _ _ _ _ _ _ _ _ c_len (by rfl) n_len (by decide +kernel) (@pa_cons _ _ _ _ _ (dv 0) pa_nil (by rfl)) (by decide) (by decide) (by rfl) (by rfl)) (@nomark _ _ (by decide) (by decide))) (@pss_one _ _ _ (@ps_ret _ _ _ _ (@pe_ix _ _ _ _ _ _ _ i_lst (dv 0) (dv 1) (fun _ _ => rfl)))) pss_nil) (@pss_one _ _ _ (@ps_ret _ _ _ _ pe_int))), ?_⟩
      refine ⟨_, .inl hS, ⟨fun h => ?_, fun _ => q 0⟩⟩
      have h := of_decide_eq_true h
      rw [List.length_map] at h
      obtain ⟨j, rfl⟩ := Int.eq_ofNat_of_zero_le k0
      have hj : j < ns.length := by omega
      refine ⟨_, .int ns[j], hS, atI_nat ?_, q _⟩
      rw [List.getElem?_map, List.getElem?_eq_getElem hj]
      rfl
theorem cut_take {xs : List V} {j : Nat} (h : j ≤ xs.length) : cutV xs none (some (j : Int)) = xs.take j := by
  unfold cutV
  rw [HT.sIx_none, HT.sIx_nat, Nat.min_eq_left h, List.drop_zero, Nat.sub_zero]
theorem cut_drop {xs : List V} {j : Nat} (h : j ≤ xs.length) : cutV xs (some (j : Int)) none = xs.drop j := by
  unfold cutV
  rw [HT.sIx_none, HT.sIx_nat, Nat.min_eq_left h, List.take_of_length_le]
  rw [List.length_drop]
  exact Nat.le_refl _
def TX (n : Nat) (x : Str) : Prop := x.length ≤ n ∧ ∀ c ∈ co x, c < 123
theorem TX.app {m n : Nat} {x y : Str} (a : TX m x) (b : TX n y) : TX (m + n) (x ++ y) := by
  refine ⟨?_, fun c hc => ?_⟩
  · rw [len_app]
    have := a.1
    have := b.1
    omega
  · rw [co_app] at hc
    rcases List.mem_append.mp hc with h | h
    · exact a.2 c h
    · exact b.2 c h
theorem TX.sl {n : Nat} {x : Str} (a : TX n x) (lo hi : Option Int) : TX n (Txt.slice x lo hi) := by
  refine ⟨Nat.le_trans (Txt.slice_le _ _ _) a.1, fun c hc => ?_⟩
  rw [co_slice] at hc
  exact a.2 c (List.mem_of_mem_drop (List.mem_of_mem_take hc))
theorem TX.mono {m n : Nat} {x : Str} (a : TX m x) (h : m ≤ n) : TX n x := ⟨Nat.le_trans a.1 h, a.2⟩
def tot (l : List Str) : Nat := (l.map fun x => x.length).sum
theorem two_of {α : Type} : ∀ {ys : List α} {a : Nat}, a + 1 < ys.length → ∃ u x y v, ys = u ++ x :: y :: v ∧ u.length = a
  | [], _, h => by simp at h
  | [_], _, h => by simp at h
  | x :: y :: v, 0, _ => ⟨[], x, y, v, rfl, rfl⟩
  | x :: y :: v, a + 1, h => by
    obtain ⟨u, p, q, r, e, l⟩ := two_of (ys := y :: v) (a := a) (by simpa using h)
    exact ⟨x :: u, p, q, r, by rw [e]; rfl, by rw [List.length_cons, l]⟩
theorem tot_app (a b : List Str) : tot (a ++ b) = tot a + tot b := by
  unfold tot
  rw [List.map_append, List.sum_append_nat]
theorem tot_cons (x : Str) (b : List Str) : tot (x :: b) = x.length + tot b := rfl
def sp_l_text (K : PySem.W.Frag) (ns : List Int) : Sp := fun vs H Q _ => match vs with
  | [.ref L, .ref X] => ∃ (nm : List Str) (xs : List Int), (H L = some (.lst (nm.map V.str)) ∧ 1 ≤ nm.length ∧ nm.length ≤ 8 ∧ tot nm ≤ 22 ∧ (∀ x ∈ nm, ∀ c ∈ co x, c < 123) ∧ H X = some (.lst (xs.map V.int)) ∧ xs.length = 8 ∧ BS xs) ∧ ∀ x H', Same H H' → TX 43 x → Q (.str x) H'
  | _ => False
theorem sc_l_text : FnScope ["_law_names", "_law_xs", "_law_some", "_law_k", "_law_at", "_law_made"] ["_law_names", "_law_xs"] (defScope s_l_text) := ⟨rfl, rfl, rfl, by decide +kernel, rfl, by decide +kernel, by decide +kernel⟩
theorem ok_l_text (d : Dfn K mg "_law_text" s_l_text ["_law_names", "_law_xs"]) (er : Errs K mg c_LadderError c_NoBook c_NoFit c_NoGame c_NoNumber c_NoPlayer c_NoRow c_NoStretch c_NoTable c_NoTree c_NoWorth) (n_range : mg "range" = none) (n_len : mg "len" = none) (n_list : mg "list" = none)   : Cal P w K mg base "_law_text" ["_law_names", "_law_xs"] 1 (sp_l_text K ns) := by
  refine d.cal (k := 0) sc_l_text (fun vs H Q E h => ?_) (fun f cdv A outer s H vs Q E hr h => ?_)
  · match vs, h with
    | [.ref L, .ref X], _ => rfl
  · match vs, h with
    | [.ref L, .ref X], ⟨nm, xs, ⟨hL, l1, l8, tn, cn, hX, lx, bs⟩, q⟩ =>
      refine ⟨_, (@pss_cons _ _ _ _ _ (@ps_set _ _ (2) _ _ _ _ sc_l_text.nd rfl (by first | exact Or.inl rfl | exact Or.inr rfl) (@pe_callTy _ _ _ _ _ _ _ _ _ c_list (by rfl) n_list (by decide +kernel) (@pa_cons _ _ _ _ _ (dv 0) pa_nil (by rfl)) (by decide) (by decide) (by rfl) (by rfl)) (by rfl) (by first | exact .inl rfl | exact .inr rfl | assumption)) (@pss_cons _ _ _ _ _ (@ps_for _ _ _ _ _ _ _ _ PassesOwn.never rfl (@pi_range1 _ _ _ _ _ _ (by rfl) n_range (@pa_cons _ _ _ _ _ (@pe_op _ _ _ _ _ _ _ _ o_sub (@pe_callB _ _ _ _ _ _ _ _ _ c_len (by rfl) n_len (by decide +kernel) (@pa_cons _ _ _ _ _ (dv 0) pa_nil (by rfl)) (by decide) (by decide) (by rfl) (by rfl)) pe_int) pa_nil (by rfl)) (by rfl)) (@pg_name _ _ (3) _ sc_l_text.nd rfl (by first | exact Or.inl rfl | exact Or.inr rfl) (by first | exact .inl rfl | exact .inr rfl | assumption)) (@pss_cons _ _ _ _ _ (@ps_set _ _ (4) _ _ _ _ sc_l_text.nd rfl (by first | exact Or.inl rfl | exact Or.inr rfl) (@pe_op _ _ _ _ _ _ _ _ o_mod (@pe_ix _ _ _ _ _ _ _ i_lst (dv 1) (dv 3) (fun _ _ => rfl)) (@pe_op _ _ _ _ _ _ _ _ o_sub (@pe_callB _ _ _ _ _ _ _ _ _ c_len (by rfl) n_len (by decide +kernel) (@pa_cons _ _ _ _ _ (dv 2) pa_nil (by rfl)) (by decide) (by decide) (by rfl) (by rfl)) pe_int)) (by rfl) (by first | exact .inl rfl | exact .inr rfl | assumption)) (@ss_cutE _ _ _ _ _ (@s_if _ _ _ _ _ _ _ _ (@t_cmp _ _ _ _ _ _ _ _ o_eq (@pe_op _ _ _ _ _ _ _ _ o_mod (@pe_ix _ _ _ _ _ _ _ i_lst (dv 1) pe_int (fun _ _ => rfl)) pe_int) pe_int (@nomark _ _ (by decide) (by decide))) (@pss_one _ _ _ (@ps_set _ _ (4) _ _ _ _ sc_l_text.nd rfl (by first | exact Or.inl rfl | exact Or.inr rfl) pe_int (by rfl) (by first | exact .inl rfl | exact .inr rfl | assumption))) pss_nil) (@pss_cons _ _ _ _ _ (@ps_set _ _ (5) _ _ _ _ sc_l_text.nd rfl (by first | exact Or.inl rfl | exact Or.inr rfl) (@pe_op _ _ _ _ _ _ _ _ o_addS (@pe_op _ _ _ _ _ _ _ _ o_addS (@pe_op _ _ _ _ _ _ _ _ o_addS (@pe_op _ _ _ _ _ _ _ _ o_addS pe_str (@pe_ix _ _ _ _ _ _ _ i_lst (dv 2) (dv 4) (fun _ _ => rfl))) pe_str) (@pe_ix _ _ _ _ _ _ _ i_lst (dv 2) (@pe_op _ _ _ _ _ _ _ _ o_add (dv 4) pe_int) (fun _ _ => rfl))) pe_str) (by rfl) (by first | exact .inl rfl | exact .inr rfl | assumption)) (@pss_one _ _ _ (@ps_set _ _ (2) _ _ _ _ sc_l_text.nd rfl (by first | exact Or.inl rfl | exact Or.inr rfl) (@pe_op _ _ _ _ _ _ _ _ o_catL (@pe_op _ _ _ _ _ _ _ _ o_catL (@pe_slice _ _ _ _ _ _ _ _ _ _ sl_lst (dv 2) po_none (po_some (dv 4))) (@e_lst _ _ _ _ (@pa_cons _ _ _ _ _ (dv 5) pa_nil (by rfl)))) (@pe_slice _ _ _ _ _ _ _ _ _ _ sl_lst (dv 2) (po_some (pe_op o_add (dv 4) pe_int)) po_none)) (by rfl) (by first | exact .inl rfl | exact .inr rfl | assumption)))))) (by intro _; rfl)) (@pss_one _ _ _ (@ps_ret _ _ _ _ (@pe_ix _ _ _ _ _ _ _ i_lst (dv 2) pe_int (fun _ _ => rfl)))))), ?_⟩
      refine ⟨_, .inl (SqL.of hL), fun S0 H0 s0 e0 => ⟨_, .inl (SqL.of (s0 _ _ hL)), ?_⟩⟩
      rw [List.length_map]
      refine ⟨_, rfl, by omega, by omega, for_range (lo := 0) (n := ((nm.length : Int) - 1).toNat) (fun i σ H' => ∃ (S : Addr) (ys : List Str) (o3 o4 o5 : Option V), σ = [some (.ref L), some (.ref X), some (.ref S), o3, o4, o5] ∧ Same H H' ∧ H' S = some (.lst (ys.map V.str)) ∧ ys.length + i = nm.length ∧ tot ys ≤ 22 + 3 * i ∧ ∀ x ∈ ys, ∀ c ∈ co x, c < 123) ⟨S0, nm, none, none, none, rfl, s0, e0, rfl, by omega, cn⟩ ?_ ?_⟩
      rotate_left
      · rintro σ H' ⟨S, ys, o3, o4, o5, rfl, s1, e1, l, t, cc⟩
        match ys, l, t, cc, e1 with
        | [], l, _, _, _ => simp at l; omega
        | [y], l, t, cc, e1 =>
          refine ⟨_, .str y, SqL.of e1, rfl, q y H' s1 ⟨?_, cc y (List.mem_singleton.mpr rfl)⟩⟩
          have t : y.length + 0 ≤ _ := t
          omega
        | _ :: _ :: _, l, _, _, _ => simp at l; omega
      rintro i σ H' hi ⟨S, ys, o3, o4, o5, rfl, s1, e1, l, t, cc⟩
      obtain ⟨xk, gk, _⟩ := bs.g (0 + (i : Int)) (by omega) (by omega)
      obtain ⟨x7, g7, _⟩ := bs.g 7 (by omega) (by omega)
      have l2 : 2 ≤ ys.length := by omega
      refine ⟨_, _, SqL.of (s1 _ _ hX), gk, _, .inl (SqL.of e1), ?_⟩
      rw [List.length_map]
      refine ⟨by omega, ?_⟩
      have m0 := Int.emod_nonneg xk (show (ys.length : Int) - 1 ≠ 0 by omega)
      have m1 := Int.emod_lt_of_pos xk (show 0 < (ys.length : Int) - 1 by omega)
      obtain ⟨a, ha⟩ : ∃ a : Nat, xk % ((ys.length : Int) - 1) = a := ⟨(xk % ((ys.length : Int) - 1)).toNat, by omega⟩
      refine ⟨fun σ H2 => ∃ (a : Nat) (o3 o5 : Option V), σ = [some (.ref L), some (.ref X), some (.ref S), o3, some (.int (a : Int)), o5] ∧ H2 = H' ∧ a + 1 < ys.length, ⟨_, _, SqL.of (s1 _ _ hX), g7, (by show (0 : Int) < 3; decide), ⟨fun _ => ⟨0, _, _, rfl, rfl, by omega⟩, fun _ => ⟨a, _, _, by rw [← ha]; rfl, rfl, by omega⟩⟩⟩, ?_⟩
      rintro σ H2 ⟨a, o3, o5, rfl, rfl, la⟩
      obtain ⟨u, p, r, v, rfl, lu⟩ := two_of la
      have ga : atI ((u ++ p :: r :: v).map V.str) (a : Int) = some (.str p) := atI_nat (by rw [List.getElem?_map, List.getElem?_append_right (by omega), lu, Nat.sub_self]; rfl)
      have gb : atI ((u ++ p :: r :: v).map V.str) ((a : Int) + 1) = some (.str r) := by
        rw [show (a : Int) + 1 = ((a + 1 : Nat) : Int) by omega]
        exact atI_nat (by rw [List.getElem?_map, List.getElem?_append_right (by omega), lu, show a + 1 - a = 1 by omega]; rfl)
      rw [tot_app, tot_cons, tot_cons] at t
      have cp := cc p (by simp)
      have cr := cc r (by simp)
      have b1 : (Str.ofString "(").length = 1 := by decide
      have b2 : (Str.ofString " ").length = 1 := by decide
      have b3 : (Str.ofString ")").length = 1 := by decide
      have zz : ∀ {n : Nat}, n ≤ 100 → n ≤ sizeLine := fun h => Nat.le_trans h (by decide)
      refine ⟨_, _, SqL.of e1, ga, zz (by rw [b1]; omega), zz (by rw [len_app, b1, b2]; omega), _, _, SqL.of e1, gb, zz (by rw [len_app, len_app, b1, b2]; omega), zz (by rw [len_app, len_app, len_app, b1, b2, b3]; omega), ?_⟩
      have lm : (Str.ofString "(" ++ p ++ Str.ofString " " ++ r ++ Str.ofString ")").length = p.length + r.length + 3 := by
        rw [len_app, len_app, len_app, len_app, b1, b2, b3]
        omega
      have cm : ∀ c ∈ co (Str.ofString "(" ++ p ++ Str.ofString " " ++ r ++ Str.ofString ")"), c < 123 := fun c hc => by
        rw [co_app, co_app, co_app, co_app, show co (Str.ofString "(") = [40] from co40, show co (Str.ofString " ") = [32] from co32, show co (Str.ofString ")") = [41] from co41] at hc
        simp only [List.mem_append, List.mem_singleton] at hc
        rcases hc with (((h | h) | h) | h) | h
        · omega
        · exact cp c h
        · omega
        · exact cr c h
        · omega
      generalize Str.ofString "(" ++ p ++ Str.ofString " " ++ r ++ Str.ofString ")" = md at lm cm
      have lall : (u ++ p :: r :: v).length ≤ 8 := by omega
      have lall' : u.length + v.length + 2 ≤ 8 := by
        rw [List.length_append, List.length_cons, List.length_cons] at lall
        omega
      have k1 : cutV ((u ++ p :: r :: v).map V.str) none (some (a : Int)) = u.map V.str := by
        rw [cut_take (by rw [List.length_map]; omega), ← List.map_take, ← lu, List.take_left]
      have k2 : cutV ((u ++ p :: r :: v).map V.str) (some ((a : Int) + 2)) none = v.map V.str := by
        rw [show (a : Int) + 2 = ((a + 2 : Nat) : Int) by omega, cut_drop (by rw [List.length_map]; omega), ← List.map_drop, show u ++ p :: r :: v = (u ++ [p, r]) ++ v by simp, show a + 2 = (u ++ [p, r]).length by simp [lu], List.drop_left]
      refine ⟨_, rfl, _, SqL.of e1, fun P1 H3 s3 f1 P2 H4 s4 f2 => ⟨_, _, s4 _ _ f1, f2, ?_, fun P3 H5 s5 f3 => ⟨_, rfl, _, SqL.of ((s3.trans (s4.trans s5)) _ _ e1), fun P4 H6 s6 f4 => ⟨_, _, s6 _ _ f3, f4, ?_, fun P5 H7 s7 f5 => ⟨P5, u ++ [md] ++ v, _, _, _, rfl, s1.trans (s3.trans (s4.trans (s5.trans (s6.trans s7)))), ?_, ?_, ?_, ?_⟩⟩⟩⟩⟩
      · rw [k1, List.length_map]
        show u.length + 1 ≤ 1000
        omega
      · rw [k1, k2, List.length_append, List.length_map, List.length_map]
        show u.length + 1 + v.length ≤ 1000
        omega
      · rw [f5, k1, k2]
        simp
      · rw [List.length_append, List.length_cons, List.length_cons] at l
        rw [List.length_append, List.length_append, List.length_singleton]
        omega
      · rw [tot_app, tot_app, tot_cons]
        show tot u + (md.length + 0) + tot v ≤ _
        omega
      · intro y hy
        simp only [List.mem_append, List.mem_singleton] at hy
        rcases hy with (h | h) | h
        · exact cc y (List.mem_append_left _ h)
        · rw [h]
          exact cm
        · exact cc y (by simp [h])
theorem fold_arr : ∀ (l : List (Array Nat)) (a : Array Nat), (l.foldl (· ++ ·) a).toList = a.toList ++ (l.map Array.toList).flatten
  | [], a => by simp
  | b :: l, a => by
    rw [List.foldl_cons, fold_arr l, Array.toList_append, List.map_cons, List.flatten_cons, List.append_assoc]
def rep (x : Str) (n : Nat) : Str := ⟨(List.replicate n x.cps).foldl (· ++ ·) #[]⟩
theorem co_rep (x : Str) (n : Nat) : co (rep x n) = (List.replicate n (co x)).flatten := by
  show ((List.replicate n x.cps).foldl (· ++ ·) #[]).toList = _
  rw [fold_arr, List.map_replicate]
  rfl
theorem rep_one (x : Str) : rep x 1 = x := co_inj (by rw [co_rep]; simp)
theorem rep_len (x : Str) (n : Nat) : (rep x n).length = n * x.length := by
  rw [← co_len, co_rep, List.length_flatten, List.map_replicate, List.sum_replicate_nat, co_len]
def dRepS : R2 := fun x y H Q => match x, y with
  | .str a, .int n => (1 ≤ n ∧ n ≤ 100 ∧ a.length ≤ 100) ∧ Q (.str (rep a n.toNat)) H
  | _, _ => False
theorem o_repS {X : Cx} : OpR X (binaryOp .Mult) dRepS := by
  intro pins s σ H x y v u Q I rx ry q
  match x, y, q with
  | .str a, .int n, ⟨⟨h1, h2, h3⟩, q⟩ =>
    obtain ⟨t, rfl⟩ := rx
    obtain ⟨t', rfl⟩ := ry
    have hm : a.length * n.toNat ≤ 100 * 100 := Nat.mul_le_mul h3 (by omega)
    refine PySem.P.mul_str ?_ (fun _ _ => ?_) (fun _ _ => ?_) ?_
    · rw [decide_eq_false (by omega), decide_eq_false (by omega)]
      rfl
    · have : (100 : Int) ≤ (2 ^ 63 - 1) / n := Int.le_ediv_of_mul_le (by omega) (by omega)
      omega
    · exact decide_eq_false (Nat.not_lt.mpr (Nat.le_trans hm (by decide)))
    · rw [if_neg (by omega)]
      split
      · rename_i c
        have e : rep a n.toNat = a := by
          rcases Bool.or_eq_true _ _ |>.mp c with c | c
          · rw [eq_of_beq c]
            exact rep_one a
          · have c : a.length = 0 := eq_of_beq c
            refine co_inj ?_
            have z : co a = [] := List.eq_nil_of_length_eq_zero (by rw [co_len, c])
            rw [co_rep, z]
            simp
        rw [e] at q
        exact ⟨.str a, H, I, ⟨_, rfl⟩, q⟩
      · refine ⟨?_, .str _, H, I.tok _, ⟨_, rfl⟩, q⟩
        show (rep a n.toNat).length ≤ sizeLine
        rw [rep_len, Nat.mul_comm]
        exact Nat.le_trans hm (by decide)
def dRep0 : R2 := fun x y H Q => match x, y with
  | .str a, .int n => (0 ≤ n ∧ n ≤ 100 ∧ a.length ≤ 100) ∧ Q (.str (rep a n.toNat)) H
  | _, _ => False
theorem o_rep0 {X : Cx} : OpR X (binaryOp .Mult) dRep0 := by
  intro pins s σ H x y v u Q I rx ry q
  match x, y, q with
  | .str a, .int n, ⟨⟨h1, h2, h3⟩, q⟩ =>
    by_cases h0 : 1 ≤ n
    · exact o_repS pins s σ H _ _ v u Q I rx ry ⟨⟨h0, h2, h3⟩, q⟩
    have hn : n = 0 := by omega
    subst hn
    obtain ⟨t, rfl⟩ := rx
    obtain ⟨t', rfl⟩ := ry
    have e : rep a (0 : Int).toNat = Str.empty := rfl
    rw [e] at q
    refine PySem.P.mul_str ?_ (fun _ _ => ?_) (fun _ _ => ?_) ?_
    · rfl
    · omega
    · rw [show a.length * (0 : Int).toNat = 0 from Nat.mul_zero _]
      rfl
    · rw [if_pos (by decide)]
      exact ⟨Nat.zero_le _, .str _, H, I.tok _, ⟨_, rfl⟩, q⟩
theorem szA {m n : Nat} {x y : Str} (a : TX m x) (b : TX n y) (h : m + n ≤ 200) : x.length + y.length ≤ sizeLine := by
  have := a.1
  have := b.1
  exact Nat.le_trans (show x.length + y.length ≤ 200 by omega) (by decide)
theorem sel {l : List Str} {m : Nat} {x n : Int} (h : ∀ s ∈ l, s.length ≤ m ∧ ∀ c ∈ co s, c < 123) (hn : (l.length : Int) = n) (h0 : 0 < n) : ∃ s, atI (l.map V.str) (x % n) = some (.str s) ∧ TX m s := by
  have m0 := Int.emod_nonneg x (show n ≠ 0 by omega)
  have m1 := Int.emod_lt_of_pos x h0
  obtain ⟨j, hj⟩ : ∃ j : Nat, x % n = j := ⟨(x % n).toNat, by omega⟩
  have hl : j < l.length := by omega
  refine ⟨l[j], ?_, h _ (List.getElem_mem hl)⟩
  rw [hj]
  exact atI_nat (by rw [List.getElem?_map, List.getElem?_eq_getElem hl]; rfl)
theorem rep_tx {n : Nat} (h : n ≤ 8) : TX 8 (rep (Str.ofString "(") n) := by
  refine ⟨?_, fun c hc => ?_⟩
  · rw [rep_len, show (Str.ofString "(").length = 1 by decide]
    omega
  · rw [co_rep, show co (Str.ofString "(") = [40] from co40] at hc
    obtain ⟨l, hl, hc⟩ := List.mem_flatten.mp hc
    rw [(List.mem_replicate.mp hl).2] at hc
    rw [List.mem_singleton.mp hc]
    decide
def sp_l_spoiled (K : PySem.W.Frag) (ns : List Int) : Sp := fun vs H Q _ => match vs with
  | [.str x, .ref X] => ∃ xs : List Int, (TX 43 x ∧ H X = some (.lst (xs.map V.int)) ∧ xs.length = 4 ∧ BS xs) ∧ ∀ y H', Same H H' → TX 100 y → Q (.str y) H'
  | _ => False
theorem sc_l_spoiled : FnScope ["_law_text_here", "_law_xs", "_law_at", "_law_sign", "_law_form"] ["_law_text_here", "_law_xs"] (defScope s_l_spoiled) := ⟨rfl, rfl, rfl, by decide +kernel, rfl, by decide +kernel, by decide +kernel⟩
theorem ok_l_spoiled (d : Dfn K mg "_law_spoiled" s_l_spoiled ["_law_text_here", "_law_xs"]) (er : Errs K mg c_LadderError c_NoBook c_NoFit c_NoGame c_NoNumber c_NoPlayer c_NoRow c_NoStretch c_NoTable c_NoTree c_NoWorth) (n_len : mg "len" = none)   : Cal P w K mg base "_law_spoiled" ["_law_text_here", "_law_xs"] 1 (sp_l_spoiled K ns) := by
  refine d.cal (k := 0) sc_l_spoiled (fun vs H Q E h => ?_) (fun f cdv A outer s H vs Q E hr h => ?_)
  · match vs, h with
    | [.str x, .ref X], _ => rfl
  · match vs, h with
    | [.str x, .ref X], ⟨xs, ⟨tx, hX, lx, bs⟩, q⟩ =>
      refine ⟨_, (@pss_cons _ _ _ _ _ (@ps_set _ _ (2) _ _ _ _ sc_l_spoiled.nd rfl (by first | exact Or.inl rfl | exact Or.inr rfl) (@pe_op _ _ _ _ _ _ _ _ o_mod (@pe_ix _ _ _ _ _ _ _ i_lst (dv 1) pe_int (fun _ _ => rfl)) (@pe_op _ _ _ _ _ _ _ _ o_add (@pe_callB _ _ _ _ _ _ _ _ _ c_len (by rfl) n_len (by decide +kernel) (@pa_cons _ _ _ _ _ (dv 0) pa_nil (by rfl)) (by decide) (by decide) (by rfl) (by rfl)) pe_int)) (by rfl) (by first | exact .inl rfl | exact .inr rfl | assumption)) (@pss_cons _ _ _ _ _ (@ps_set _ _ (3) _ _ _ _ sc_l_spoiled.nd rfl (by first | exact Or.inl rfl | exact Or.inr rfl) (@pe_ix _ _ _ _ _ _ _ i_lst (@e_lst _ _ _ _ (@pa_cons _ _ _ _ _ pe_str (@pa_cons _ _ _ _ _ pe_str (@pa_cons _ _ _ _ _ pe_str (@pa_cons _ _ _ _ _ pe_str (@pa_cons _ _ _ _ _ pe_str (@pa_cons _ _ _ _ _ pe_str (@pa_cons _ _ _ _ _ pe_str (@pa_cons _ _ _ _ _ pe_str pa_nil (by rfl)) (by rfl)) (by rfl)) (by rfl)) (by rfl)) (by rfl)) (by rfl)) (by rfl))) (@pe_op _ _ _ _ _ _ _ _ o_mod (@pe_ix _ _ _ _ _ _ _ i_lst (dv 1) pe_int (fun _ _ => rfl)) pe_int) (fun _ _ => rfl)) (by rfl) (by first | exact .inl rfl | exact .inr rfl | assumption)) (@pss_cons _ _ _ _ _ (@ps_set _ _ (4) _ _ _ _ sc_l_spoiled.nd rfl (by first | exact Or.inl rfl | exact Or.inr rfl) (@pe_op _ _ _ _ _ _ _ _ o_mod (@pe_ix _ _ _ _ _ _ _ i_lst (dv 1) pe_int (fun _ _ => rfl)) pe_int) (by rfl) (by first | exact .inl rfl | exact .inr rfl | assumption)) (@pss_cons _ _ _ _ _ (@s_if _ _ _ _ _ _ _ _ (@t_cmp _ _ _ _ _ _ _ _ o_eq (dv 4) pe_int (@nomark _ _ (by decide) (by decide))) (@pss_one _ _ _ (@ps_ret _ _ _ _ (@pe_op _ _ _ _ _ _ _ _ o_addS (@pe_slice _ _ _ _ _ _ _ _ _ _ sl_str (dv 0) po_none (po_some (dv 2))) (@pe_slice _ _ _ _ _ _ _ _ _ _ sl_str (dv 0) (po_some (pe_op o_add (dv 2) pe_int)) po_none)))) pss_nil) (@pss_cons _ _ _ _ _ (@s_if _ _ _ _ _ _ _ _ (@t_cmp _ _ _ _ _ _ _ _ o_eq (dv 4) pe_int (@nomark _ _ (by decide) (by decide))) (@pss_one _ _ _ (@ps_ret _ _ _ _ (@pe_op _ _ _ _ _ _ _ _ o_addS (@pe_op _ _ _ _ _ _ _ _ o_addS (@pe_slice _ _ _ _ _ _ _ _ _ _ sl_str (dv 0) po_none (po_some (dv 2))) (dv 3)) (@pe_slice _ _ _ _ _ _ _ _ _ _ sl_str (dv 0) (po_some (dv 2)) po_none)))) pss_nil) (@pss_cons _ _ _ _ _ (@s_if _ _ _ _ _ _ _ _ (@t_cmp _ _ _ _ _ _ _ _ o_eq (dv 4) pe_int (@nomark _ _ (by decide) (by decide))) (@pss_one _ _ _ (@ps_ret _ _ _ _ (@pe_op _ _ _ _ _ _ _ _ o_addS (@pe_op _ _ _ _ _ _ _ _ o_addS (@pe_slice _ _ _ _ _ _ _ _ _ _ sl_str (dv 0) po_none (po_some (dv 2))) (dv 3)) (@pe_slice _ _ _ _ _ _ _ _ _ _ sl_str (dv 0) (po_some (pe_op o_add (dv 2) pe_int)) po_none)))) pss_nil) (@pss_cons _ _ _ _ _ (@s_if _ _ _ _ _ _ _ _ (@t_cmp _ _ _ _ _ _ _ _ o_eq (dv 4) pe_int (@nomark _ _ (by decide) (by decide))) (@pss_one _ _ _ (@ps_ret _ _ _ _ (@pe_op _ _ _ _ _ _ _ _ o_addS (@pe_op _ _ _ _ _ _ _ _ o_addS (@pe_op _ _ _ _ _ _ _ _ o_addS (@pe_op _ _ _ _ _ _ _ _ o_addS pe_str (dv 0)) pe_str) (@pe_ix _ _ _ _ _ _ _ i_lst (@e_lst _ _ _ _ (@pa_cons _ _ _ _ _ pe_str (@pa_cons _ _ _ _ _ pe_str (@pa_cons _ _ _ _ _ pe_str (@pa_cons _ _ _ _ _ pe_str pa_nil (by rfl)) (by rfl)) (by rfl)) (by rfl))) (@pe_op _ _ _ _ _ _ _ _ o_mod (@pe_ix _ _ _ _ _ _ _ i_lst (dv 1) pe_int (fun _ _ => rfl)) pe_int) (fun _ _ => rfl))) pe_str))) pss_nil) (@pss_cons _ _ _ _ _ (@s_if _ _ _ _ _ _ _ _ (@t_cmp _ _ _ _ _ _ _ _ o_eq (dv 4) pe_int (@nomark _ _ (by decide) (by decide))) (@pss_one _ _ _ (@ps_ret _ _ _ _ (@pe_ix _ _ _ _ _ _ _ i_lst (@e_lst _ _ _ _ (@pa_cons _ _ _ _ _ pe_str (@pa_cons _ _ _ _ _ pe_str (@pa_cons _ _ _ _ _ pe_str (@pa_cons _ _ _ _ _ pe_str (@pa_cons _ _ _ _ _ pe_str (@pa_cons _ _ _ _ _ pe_str (@pa_cons _ _ _ _ _ pe_str (@pa_cons _ _ _ _ _ pe_str (@pa_cons _ _ _ _ _ pe_str (@pa_cons _ _ _ _ _ pe_str (@pa_cons _ _ _ _ _ pe_str pa_nil (by rfl)) (by rfl)) (by rfl)) (by rfl)) (by rfl)) (by rfl)) (by rfl)) (by rfl)) (by rfl)) (by rfl)) (by rfl))) (@pe_op _ _ _ _ _ _ _ _ o_mod (@pe_ix _ _ _ _ _ _ _ i_lst (dv 1) pe_int (fun _ _ => rfl)) pe_int) (fun _ _ => rfl)))) pss_nil) (@pss_one _ _ _ (@ps_ret _ _ _ _ (@pe_op _ _ _ _ _ _ _ _ o_addS (@pe_op _ _ _ _ _ _ _ _ o_rep0 pe_str (@pe_op _ _ _ _ _ _ _ _ o_mod (@pe_op _ _ _ _ _ _ _ _ o_div (@pe_ix _ _ _ _ _ _ _ i_lst (dv 1) pe_int (fun _ _ => rfl)) pe_int) pe_int)) (@pe_slice _ _ _ _ _ _ _ _ _ _ sl_str pe_str po_none (po_some (pe_op o_add pe_int (pe_op o_mul pe_int (pe_op o_mod (pe_ix i_lst (dv 1) pe_int (fun _ _ => rfl)) pe_int)))))))))))))))), ?_⟩
      obtain ⟨x0, g0, p0, _⟩ := bs.g 0 (by omega) (by omega)
      obtain ⟨x1, g1, p1, _⟩ := bs.g 1 (by omega) (by omega)
      obtain ⟨x2, g2, p2, _⟩ := bs.g 2 (by omega) (by omega)
      obtain ⟨x3, g3, p3, _⟩ := bs.g 3 (by omega) (by omega)
      have zX : x.length ≤ sizeLine := Nat.le_trans tx.1 (by decide)
      refine ⟨_, _, SqL.of hX, g0, zX, (by show (0 : Int) < (x.length : Int) + 1; omega), fun P1 H1 s1 e1 => ?_⟩
      obtain ⟨sg, gs, tg⟩ := sel (l := [Str.ofString "a", Str.ofString "(", Str.ofString ")", Str.ofString " ", Str.ofString "b", Str.ofString "A", Str.ofString "1", Str.ofString ","]) (m := 1) (x := x1) (n := 8) (by decide +kernel) rfl (by decide)
      have hX1 := s1 _ _ hX
      refine ⟨_, _, SqL.of hX1, g1, (by show (0 : Int) < 8; decide), _, _, SqL.of e1, gs, _, _, SqL.of hX1, g2, (by show (0 : Int) < 6; decide), ?_⟩
      have b1 : TX 1 (Str.ofString "(") := by unfold TX; decide +kernel
      have b2 : TX 1 (Str.ofString " ") := by unfold TX; decide +kernel
      have b3 : TX 1 (Str.ofString ")") := by unfold TX; decide +kernel
      refine ⟨fun _ => ?_, fun _ => ⟨fun _ => ?_, fun _ => ⟨fun _ => ?_, fun _ => ⟨fun _ => ?_, fun _ => ⟨fun _ => ?_, fun _ => ?_⟩⟩⟩⟩⟩
      · exact ⟨_, rfl, zX, _, rfl, zX, szA (tx.sl _ _) (tx.sl _ _) (by decide), q _ H1 s1 (((tx.sl _ _).app (tx.sl _ _)).mono (by decide))⟩
      · exact ⟨_, rfl, zX, szA (tx.sl _ _) tg (by decide), _, rfl, zX, szA ((tx.sl _ _).app tg) (tx.sl _ _) (by decide), q _ H1 s1 ((((tx.sl _ _).app tg).app (tx.sl _ _)).mono (by decide))⟩
      · exact ⟨_, rfl, zX, szA (tx.sl _ _) tg (by decide), _, rfl, zX, szA ((tx.sl _ _).app tg) (tx.sl _ _) (by decide), q _ H1 s1 ((((tx.sl _ _).app tg).app (tx.sl _ _)).mono (by decide))⟩
      · obtain ⟨s4, g4, t4⟩ := sel (l := [Str.ofString "zz", Str.ofString "ab", Str.ofString "q", Str.ofString "abcdefghi"]) (m := 9) (x := x3) (n := 4) (by decide +kernel) rfl (by decide)
        exact ⟨szA b1 tx (by decide), szA (b1.app tx) b2 (by decide), fun P2 H2 s2 e2 => ⟨_, _, SqL.of (s2 _ _ hX1), g3, (by show (0 : Int) < 4; decide), _, _, SqL.of e2, g4, szA ((b1.app tx).app b2) t4 (by decide), szA (((b1.app tx).app b2).app t4) b3 (by decide), q _ H2 (s1.trans s2) (((((b1.app tx).app b2).app t4).app b3).mono (by decide))⟩⟩
      · obtain ⟨s4, g4, t4⟩ := sel (l := [Str.ofString "", Str.ofString " ", Str.ofString "()", Str.ofString "(a)", Str.ofString "(a b", Str.ofString "a b", Str.ofString "(a  b)", Str.ofString "( a b)", Str.ofString "(a b )", Str.ofString "(a b c)", Str.ofString "(a a)"]) (m := 7) (x := x3) (n := 11) (by decide +kernel) rfl (by decide)
        exact fun P2 H2 s2 e2 => ⟨_, _, SqL.of (s2 _ _ hX1), g3, (by show (0 : Int) < 11; decide), _, _, SqL.of e2, g4, q _ H2 (s1.trans s2) (t4.mono (by decide))⟩
      · have m0 := Int.emod_nonneg (x3 / 8) (show (8 : Int) ≠ 0 by decide)
        have m1 := Int.emod_lt_of_pos (x3 / 8) (show (0 : Int) < 8 by decide)
        have tl : TX 26 (Str.ofString "(a b) c) d) e) f) g) h) i)") := by unfold TX; decide +kernel
        have tr : TX 8 (rep (Str.ofString "(") (x3 / 8 % 8).toNat) := rep_tx (by omega)
        refine ⟨_, _, SqL.of hX1, g3, ⟨by decide, bd_lit rfl⟩, (by show (0 : Int) < 8; decide), ⟨by omega, by omega, Nat.le_trans b1.1 (by decide)⟩, _, _, SqL.of hX1, g3, (by show (0 : Int) < 8; decide), ?_⟩
        exact ⟨.inr (.inl ⟨by decide, by decide⟩), _, rfl, Nat.le_trans tl.1 (by decide), szA tr (tl.sl _ _) (by decide), q _ H1 s1 ((tr.app (tl.sl _ _)).mono (by decide))⟩
def l8n : List Str := [Str.ofString "ab", Str.ofString "abc", Str.ofString "b", Str.ofString "ba", Str.ofString "zzzzzzzz", Str.ofString "c", Str.ofString "cc", Str.ofString "aba"]
theorem l8_tot : ∀ j < 9, tot (l8n.take j) ≤ 22 := by decide +kernel
theorem l8_abc : ∀ x ∈ l8n, ∀ c ∈ co x, c < 123 := by decide +kernel
theorem sc_law : FnScope ["_law_script", "_law_first", "_law_names", "_law_text_here", "_law_k", "_law_xs"] ["_law_script"] (defScope s_law) := ⟨rfl, rfl, rfl, by decide +kernel, rfl, by decide +kernel, by decide +kernel⟩
theorem ok_law (d : Dfn K mg "law" s_law ["_law_script"]) (er : Errs K mg c_LadderError c_NoBook c_NoFit c_NoGame c_NoNumber c_NoPlayer c_NoRow c_NoStretch c_NoTable c_NoTree c_NoWorth) (n_range : mg "range" = none) (n_min : mg "min" = none) (n_len : mg "len" = none)  (c_l_told : Cal P w K mg base "_law_told" ["_law_text_here", "_law_base"] 12 (sp_l_told K ns)) (c_l_spoiled : Cal P w K mg base "_law_spoiled" ["_law_text_here", "_law_xs"] 1 (sp_l_spoiled K ns)) (c_l_stream : Cal P w K mg base "_law_stream" ["_law_cell", "_law_salt", "_law_many"] 1 (sp_l_stream K ns)) (c_l_text : Cal P w K mg base "_law_text" ["_law_names", "_law_xs"] 1 (sp_l_text K ns)) (c_l_cell_at : Cal P w K mg base "_law_cell_at" ["_law_script", "_law_k"] 1 (sp_l_cell_at K ns)) : Cal P w K mg base "law" ["_law_script"] 13 (sp_law K ns) := by
  refine d.cal (k := 12) sc_law (fun vs H Q E h => ?_) (fun f cdv A outer s H vs Q E hr h => ?_)
  · match vs, h with
    | [.ref a], _ => rfl
  · match vs, h with
    | [.ref a], ⟨hS, hl, k⟩ =>
      refine ⟨_, (@ss_cutE _ _ _ _ _ (@ps_set _ _ (1) _ _ _ _ sc_law.nd rfl (by first | exact Or.inl rfl | exact Or.inr rfl) (@e_call _ _ _ _ _ _ _ _ _ _ _ c_l_cell_at hr (by decide) (by rfl) (@pa_cons _ _ _ _ _ (dv 0) (@pa_cons _ _ _ _ _ pe_int pa_nil (by rfl)) (by rfl)) (by decide) (by rfl) (by rfl)) (by rfl) (by first | exact .inl rfl | exact .inr rfl | assumption)) (@pss_cons _ _ _ _ _ (@ps_set _ _ (2) _ _ _ _ sc_law.nd rfl (by first | exact Or.inl rfl | exact Or.inr rfl) (@pe_slice _ _ _ _ _ _ _ _ _ _ sl_lst (@e_lst _ _ _ _ (@pa_cons _ _ _ _ _ pe_str (@pa_cons _ _ _ _ _ pe_str (@pa_cons _ _ _ _ _ pe_str (@pa_cons _ _ _ _ _ pe_str (@pa_cons _ _ _ _ _ pe_str (@pa_cons _ _ _ _ _ pe_str (@pa_cons _ _ _ _ _ pe_str (@pa_cons _ _ _ _ _ pe_str pa_nil (by rfl)) (by rfl)) (by rfl)) (by rfl)) (by rfl)) (by rfl)) (by rfl)) (by rfl))) po_none (po_some (pe_op o_add pe_int (pe_op o_mod (dv 1) pe_int)))) (by rfl) (by first | exact .inl rfl | exact .inr rfl | assumption)) (@pss_cons _ _ _ _ _ (@ps_set _ _ (3) _ _ _ _ sc_law.nd rfl (by first | exact Or.inl rfl | exact Or.inr rfl) (@e_call _ _ _ _ _ _ _ _ _ _ _ c_l_text hr (by decide) (by rfl) (@pa_cons _ _ _ _ _ (dv 2) (@pa_cons _ _ _ _ _ (@e_call _ _ _ _ _ _ _ _ _ _ _ c_l_stream hr (by decide) (by rfl) (@pa_cons _ _ _ _ _ (@e_call _ _ _ _ _ _ _ _ _ _ _ c_l_cell_at hr (by decide) (by rfl) (@pa_cons _ _ _ _ _ (dv 0) (@pa_cons _ _ _ _ _ pe_int pa_nil (by rfl)) (by rfl)) (by decide) (by rfl) (by rfl)) (@pa_cons _ _ _ _ _ pe_int (@pa_cons _ _ _ _ _ pe_int pa_nil (by rfl)) (by rfl)) (by rfl)) (by decide) (by rfl) (by rfl)) pa_nil (by rfl)) (by rfl)) (by decide) (by rfl) (by rfl)) (by rfl) (by first | exact .inl rfl | exact .inr rfl | assumption)) (@pss_cons _ _ _ _ _ (@s_if _ _ _ _ _ _ _ _ (@L2.PW.pt _ _ _ (@w_or _ _ _ _ _ _ _ (@pt_not _ _ _ _ (@t_val _ _ _ (@e_call _ _ _ _ _ _ _ _ _ _ _ c_l_told hr (by decide) (by rfl) (@pa_cons _ _ _ _ _ (dv 3) (@pa_cons _ _ _ _ _ pe_bl pa_nil (by rfl)) (by rfl)) (by decide) (by rfl) (by rfl)) (by intro _; rfl))) (@pw_or1 _ _ _ _ (@pt_not _ _ _ _ (@t_val _ _ _ (@e_call _ _ _ _ _ _ _ _ _ _ _ c_l_told hr (by decide) (by rfl) (@pa_cons _ _ _ _ _ (@pe_ix _ _ _ _ _ _ _ i_lst (@e_lst _ _ _ _ (@pa_cons _ _ _ _ _ pe_non (@pa_cons _ _ _ _ _ pe_int (@pa_cons _ _ _ _ _ (@e_lst _ _ _ _ (@pa_cons _ _ _ _ _ pe_str (@pa_cons _ _ _ _ _ pe_str pa_nil (by rfl)) (by rfl))) (@pa_cons _ _ _ _ _ (@e_tup _ _ _ _ _ (@pa_cons _ _ _ _ _ pe_str (@pa_cons _ _ _ _ _ pe_str pa_nil (by rfl)) (by rfl))) (@pa_cons _ _ _ _ _ pe_bl pa_nil (by rfl)) (by rfl)) (by rfl)) (by rfl)) (by rfl))) (@pe_op _ _ _ _ _ _ _ _ o_mod (@pe_op _ _ _ _ _ _ _ _ o_div (dv 1) pe_int) pe_int) (fun _ _ => rfl)) (@pa_cons _ _ _ _ _ pe_bl pa_nil (by rfl)) (by rfl)) (by decide) (by rfl) (by rfl)) (by intro _; rfl)))))) (@pss_one _ _ _ (@ps_ret _ _ _ _ pe_bl)) pss_nil) (@pss_cons _ _ _ _ _ (@ps_for _ _ _ _ _ _ _ _ PassesOwn.never rfl (@pi_range2 _ _ _ _ _ _ _ (by rfl) n_range (@pa_cons _ _ _ _ _ pe_int (@pa_cons _ _ _ _ _ (@pe_callB _ _ _ _ _ _ _ _ _ (@call_min2 _ rfl) (by rfl) n_min (by decide +kernel) (@pa_cons _ _ _ _ _ (@pe_callB _ _ _ _ _ _ _ _ _ c_len (by rfl) n_len (by decide +kernel) (@pa_cons _ _ _ _ _ (dv 0) pa_nil (by rfl)) (by decide) (by decide) (by rfl) (by rfl)) (@pa_cons _ _ _ _ _ pe_int pa_nil (by rfl)) (by rfl)) (by decide) (by decide) (by rfl) (by rfl)) pa_nil (by rfl)) (by rfl)) (by rfl) (by rfl)) (@pg_name _ _ (4) _ sc_law.nd rfl (by first | exact Or.inl rfl | exact Or.inr rfl) (by first | exact .inl rfl | exact .inr rfl | assumption)) (@pss_cons _ _ _ _ _ (@ps_set _ _ (5) _ _ _ _ sc_law.nd rfl (by first | exact Or.inl rfl | exact Or.inr rfl) (@e_call _ _ _ _ _ _ _ _ _ _ _ c_l_stream hr (by decide) (by rfl) (@pa_cons _ _ _ _ _ (@pe_ix _ _ _ _ _ _ _ i_lst (dv 0) (dv 4) (fun _ _ => rfl)) (@pa_cons _ _ _ _ _ (dv 4) (@pa_cons _ _ _ _ _ pe_int pa_nil (by rfl)) (by rfl)) (by rfl)) (by decide) (by rfl) (by rfl)) (by rfl) (by first | exact .inl rfl | exact .inr rfl | assumption)) (@pss_one _ _ _ (@s_if _ _ _ _ _ _ _ _ (@pt_not _ _ _ _ (@t_val _ _ _ (@e_call _ _ _ _ _ _ _ _ _ _ _ c_l_told hr (by decide) (by rfl) (@pa_cons _ _ _ _ _ (@e_call _ _ _ _ _ _ _ _ _ _ _ c_l_spoiled hr (by decide) (by rfl) (@pa_cons _ _ _ _ _ (dv 3) (@pa_cons _ _ _ _ _ (dv 5) pa_nil (by rfl)) (by rfl)) (by decide) (by rfl) (by rfl)) (@pa_cons _ _ _ _ _ (@pe_cmpR _ _ _ _ _ _ _ _ o_eq (@pe_op _ _ _ _ _ _ _ _ o_mod (@pe_op _ _ _ _ _ _ _ _ o_div (@pe_ix _ _ _ _ _ _ _ i_lst (dv 5) pe_int (fun _ _ => rfl)) pe_int) pe_int) pe_int (@nomark _ _ (by decide) (by decide))) pa_nil (by rfl)) (by rfl)) (by decide) (by rfl) (by rfl)) (by intro _; rfl))) (@pss_one _ _ _ (@ps_ret _ _ _ _ pe_bl)) pss_nil))) (by intro _; rfl)) (@pss_one _ _ _ (@ps_ret _ _ _ _ (@e_call _ _ _ _ _ _ _ _ _ _ _ c_l_told hr (by decide) (by rfl) (@pa_cons _ _ _ _ _ (dv 3) (@pa_cons _ _ _ _ _ pe_bl pa_nil (by rfl)) (by rfl)) (by decide) (by rfl) (by rfl))))))))), ?_⟩
      refine ⟨fun σ H' => ∃ c : Int, σ = [some (.ref a), some (.int c), none, none, none, none] ∧ H' = H, ⟨hS, by decide, fun c => ⟨c, rfl, rfl⟩⟩, ?_⟩
      rintro σ H0 ⟨c, rfl, rfl⟩
      have c0 := Int.emod_nonneg c (show (8 : Int) ≠ 0 by decide)
      have c1 := Int.emod_lt_of_pos c (show (0 : Int) < 8 by decide)
      obtain ⟨j, hj⟩ : ∃ j : Nat, 1 + c % 8 = j := ⟨(1 + c % 8).toNat, by omega⟩
      intro P1 H1 s1 e1
      refine ⟨(by show (0 : Int) < 8; decide), _, rfl, _, SqL.of e1, fun L H2 s2 e2 => ?_⟩
      have e2 : H2 L = some (.lst ((l8n.take j).map V.str)) := by
        rw [e2, hj, List.map_take]
        exact congrArg (fun l => some (HO.lst l)) (cut_take (xs := l8n.map V.str) (show j ≤ 8 by omega))
      have hS2 := (s1.trans s2).seq hS
      have lj : (l8n.take j).length = j := by
        rw [List.length_take]
        show min j 8 = j
        omega
      refine ⟨hS2, by decide, fun c2 => ⟨⟨⟨by decide, by decide⟩, ⟨by decide, by decide⟩⟩, fun X xs H3 s3 _ e3 lx bs => ?_⟩⟩
      refine ⟨l8n.take j, xs, ⟨s3 _ _ e2, by omega, by omega, l8_tot j (by omega), fun x hx => l8_abc x (List.mem_of_mem_take hx), e3, by omega, bs⟩, fun x H4 s4 tx => ?_⟩
      have hx : ∃ y, V.str x = .str y ∧ y.length ≤ 100 ∧ ∀ c ∈ co y, c < 123 := ⟨x, rfl, Nat.le_trans tx.1 (by decide), tx.2⟩
      refine ⟨.inr hx, fun H5 s5 => ⟨fun h => nb h, fun _ => ?_⟩⟩
      intro Lp H6 s6 e6 Tp H7 s7 e7 Pp H8 s8 e8
      have d0 := Int.emod_nonneg (c / 8) (show (5 : Int) ≠ 0 by decide)
      have d1 := Int.emod_lt_of_pos (c / 8) (show (0 : Int) < 5 by decide)
      have gv : ∃ v, atI [V.non, .int 7, .ref Lp, .ref Tp, .bl true] (c / 8 % 5) = some v ∧ Kd H8 v ∧ ∀ x, v ≠ .str x := by
        have : c / 8 % 5 = 0 ∨ c / 8 % 5 = 1 ∨ c / 8 % 5 = 2 ∨ c / 8 % 5 = 3 ∨ c / 8 % 5 = 4 := by omega
        rcases this with h | h | h | h | h <;> rw [h]
        · exact ⟨_, rfl, True.intro, fun x e => by cases e⟩
        · exact ⟨_, rfl, True.intro, fun x e => by cases e⟩
        · exact ⟨_, rfl, ⟨_, "list", (s7.trans s8) _ _ e6, rfl, rfl⟩, fun x e => by cases e⟩
        · exact ⟨_, rfl, ⟨_, "tuple", s8 _ _ e7, rfl, rfl⟩, fun x e => by cases e⟩
        · exact ⟨_, rfl, True.intro, fun x e => by cases e⟩
      obtain ⟨v, gv, kv, nv⟩ := gv
      refine ⟨⟨by decide, bd_lit rfl⟩, (by show (0 : Int) < 5; decide), _, _, SqL.of e8, gv, .inl ⟨kv, nv⟩, fun H9 s9 => ⟨fun h => nb h, fun _ => ?_⟩⟩
      have hS9 : SqL K H9 a (ns.map V.int) := (s3.trans (s4.trans (s5.trans (s6.trans (s7.trans (s8.trans s9)))))).seq hS2
      refine ⟨_, .inl hS9, _, _, rfl, ?_⟩
      rw [List.length_map]
      have hm : ∃ hi : Int, (if (14 : Int) < (ns.length : Int) then (14 : Int) else (ns.length : Int)) = hi ∧ 0 ≤ hi ∧ hi ≤ 14 ∧ hi ≤ ns.length := by
        split
        · exact ⟨_, rfl, by omega, by omega, by omega⟩
        · exact ⟨_, rfl, by omega, by omega, by omega⟩
      obtain ⟨hi, hm, h0, h14, hns⟩ := hm
      rw [hm]
      refine ⟨_, _, rfl, ⟨by decide, by decide, by omega, by omega⟩, for_range (lo := 2) (n := (hi - 2).toNat) (fun i σ H' => ∃ (o4 o5 : Option V), σ = [some (.ref a), some (.int c), some (.ref L), some (.str x), o4, o5] ∧ Same H9 H') ⟨none, none, rfl, Same.refl _⟩ ?_ ?_⟩
      · rintro i σ H' hi' ⟨o4, o5, rfl, s10⟩
        have hk : 2 + i < ns.length := by omega
        have gk : atI (ns.map V.int) (2 + (i : Int)) = some (.int ns[2 + i]) := by
          rw [show (2 : Int) + (i : Int) = ((2 + i : Nat) : Int) by omega]
          exact atI_nat (by rw [List.getElem?_map, List.getElem?_eq_getElem hk]; rfl)
        refine ⟨_, _, s10.seq hS9, gk, ⟨⟨by omega, by omega⟩, ⟨by decide, by decide⟩⟩, fun Y ys H11 s11 _ e11 ly by' => ?_⟩
        obtain ⟨y0, g0, _⟩ := by'.g 0 (by omega) (by omega)
        refine ⟨ys, ⟨tx, e11, by omega, by'⟩, fun y H12 s12 ty => ⟨_, _, SqL.of (s12 _ _ e11), g0, ⟨by decide, bd_lit rfl⟩, (by show (0 : Int) < 2; decide), .inr ⟨y, rfl, ty.1, ty.2⟩, fun H13 s13 => ⟨fun h => nb h, fun _ => ⟨_, _, rfl, s10.trans (s11.trans (s12.trans s13))⟩⟩⟩⟩
      rintro σ H' ⟨o4, o5, rfl, s10⟩
      exact ⟨.inr hx, fun H'' _ => k H''⟩
theorem ok_all {ns : List Int} (d_is_name : Dfn K mg "is_name" s_is_name ["thing"]) (d_leaves : Dfn K mg "leaves" s_leaves ["tree"]) (d_read_tree : Dfn K mg "read_tree" s_read_tree ["text"]) (d_read_part : Dfn K mg "read_part" s_read_part ["text", "start", "depth"]) (d_read_word : Dfn K mg "read_word" s_read_word ["text", "start"]) (d_check_sign : Dfn K mg "check_sign" s_check_sign ["text", "at", "sign"]) (d_show_tree : Dfn K mg "show_tree" s_show_tree ["tree"]) (d_show_part : Dfn K mg "show_part" s_show_part ["part"]) (d_l_cell_at : Dfn K mg "_law_cell_at" s_l_cell_at ["_law_script", "_law_k"]) (d_l_stream : Dfn K mg "_law_stream" s_l_stream ["_law_cell", "_law_salt", "_law_many"]) (d_l_text : Dfn K mg "_law_text" s_l_text ["_law_names", "_law_xs"]) (d_l_spoiled : Dfn K mg "_law_spoiled" s_l_spoiled ["_law_text_here", "_law_xs"]) (d_l_words : Dfn K mg "_law_words" s_l_words ["_law_text_here"]) (d_l_is_name : Dfn K mg "_law_is_name" s_l_is_name ["_law_word"]) (d_l_is_tree : Dfn K mg "_law_is_tree" s_l_is_tree ["_law_text_here"]) (d_l_no_tree : Dfn K mg "_law_no_tree" s_l_no_tree ["_law_error"]) (d_l_told : Dfn K mg "_law_told" s_l_told ["_law_text_here", "_law_base"]) (d_law : Dfn K mg "law" s_law ["_law_script"]) (er : Errs K mg c_LadderError c_NoBook c_NoFit c_NoGame c_NoNumber c_NoPlayer c_NoRow c_NoStretch c_NoTable c_NoTree c_NoWorth) (n_ValueError : mg "ValueError" = none) (n_all : mg "all" = none) (n_isinstance : mg "isinstance" = none) (n_len : mg "len" = none) (n_list : mg "list" = none) (n_min : mg "min" = none) (n_range : mg "range" = none) (n_str : mg "str" = none) (n_tuple : mg "tuple" = none) (v_DEEPEST : Cst mg "DEEPEST" (.int (7))) (v_LETTERS : Cst mg "LETTERS" (.str "abcdefghijklmnopqrstuvwxyz")) (v_LONGEST_NAME : Cst mg "LONGEST_NAME" (.int (8))) (v_MOST_NAMES : Cst mg "MOST_NAMES" (.int (8))) : Cal P w K mg base "law" ["_law_script"] 13 (sp_law K ns) := by
  have c_is_name : Cal P w K mg base "is_name" ["thing"] 1 (sp_is_name K ns) := ok_is_name d_is_name er n_all n_len n_isinstance n_str v_LETTERS v_LONGEST_NAME
  have c_read_word : Cal P w K mg base "read_word" ["text", "start"] 1 (sp_read_word K ns) := ok_read_word d_read_word er n_len v_LETTERS
  have c_check_sign : Cal P w K mg base "check_sign" ["text", "at", "sign"] 1 (sp_check_sign K ns) := ok_check_sign d_check_sign er
  have c_l_cell_at : Cal P w K mg base "_law_cell_at" ["_law_script", "_law_k"] 1 (sp_l_cell_at K ns) := ok_l_cell_at d_l_cell_at er n_len
  have c_l_stream : Cal P w K mg base "_law_stream" ["_law_cell", "_law_salt", "_law_many"] 1 (sp_l_stream K ns) := ok_l_stream d_l_stream er n_range
  have c_l_text : Cal P w K mg base "_law_text" ["_law_names", "_law_xs"] 1 (sp_l_text K ns) := ok_l_text d_l_text er n_range n_len n_list
  have c_l_spoiled : Cal P w K mg base "_law_spoiled" ["_law_text_here", "_law_xs"] 1 (sp_l_spoiled K ns) := ok_l_spoiled d_l_spoiled er n_len
  have c_l_words : Cal P w K mg base "_law_words" ["_law_text_here"] 1 (sp_l_words K ns) := ok_l_words d_l_words er
  have c_l_is_name : Cal P w K mg base "_law_is_name" ["_law_word"] 1 (sp_l_is_name K ns) := ok_l_is_name d_l_is_name er n_len
  have c_l_no_tree : Cal P w K mg base "_law_no_tree" ["_law_error"] 1 (sp_l_no_tree K ns) := ok_l_no_tree d_l_no_tree er n_isinstance n_ValueError
  have c_leaves : Cal P w K mg base "leaves" ["tree"] 2 (sp_leaves K ns) := ok_leaves d_leaves er n_len n_isinstance n_tuple v_MOST_NAMES c_is_name
  have c_l_is_tree : Cal P w K mg base "_law_is_tree" ["_law_text_here"] 2 (sp_l_is_tree K ns) := ok_l_is_tree d_l_is_tree er n_len c_l_words c_l_is_name
  have c_show_part : Cal P w K mg base "show_part" ["part"] 9 (sp_show_part K ns) := ok_show_part d_show_part er n_isinstance n_str
  have c_read_part : Cal P w K mg base "read_part" ["text", "start", "depth"] 10 (sp_read_part K ns) := ok_read_part d_read_part er v_DEEPEST c_check_sign c_read_word
  have c_show_tree : Cal P w K mg base "show_tree" ["tree"] 10 (sp_show_tree K ns) := ok_show_tree d_show_tree er c_show_part c_leaves
  have c_read_tree : Cal P w K mg base "read_tree" ["text"] 11 (sp_read_tree K ns) := ok_read_tree d_read_tree er n_len n_isinstance n_str c_leaves c_read_part
  have c_l_told : Cal P w K mg base "_law_told" ["_law_text_here", "_law_base"] 12 (sp_l_told K ns) := ok_l_told d_l_told er n_isinstance n_str c_l_no_tree c_l_is_tree c_show_tree c_read_tree
  have c_law : Cal P w K mg base "law" ["_law_script"] 13 (sp_law K ns) := ok_law d_law er n_range n_min n_len c_l_told c_l_spoiled c_l_stream c_l_text c_l_cell_at
  exact c_law
end
theorem lenE1 : ∀ us : List Value, us.length = 1 → ∃ y0 : Value, us = [y0]
  | [y0], _ => ⟨_, rfl⟩
theorem lenE2 : ∀ us : List Value, us.length = 2 → ∃ y0 y1 : Value, us = [y0, y1]
  | [y0, y1], _ => ⟨_, _, rfl⟩
theorem lenE3 : ∀ us : List Value, us.length = 3 → ∃ y0 y1 y2 : Value, us = [y0, y1, y2]
  | [y0, y1, y2], _ => ⟨_, _, _, rfl⟩
theorem all_mk {l : PySem.W.OpenLaw} {w : World} {K : PySem.W.Frag} {h : Heap} {mg : Str → Option Value} {fa : Addr} {f0 : Addr} {od0 an0 : Option Addr} {sl0 : Array (Option Value)} {oc0 kV0 dc0 pm0 cd0 ct0 : Value} {f1 : Addr} {od1 an1 : Option Addr} {sl1 : Array (Option Value)} {oc1 kV1 dc1 pm1 cd1 ct1 : Value} {f2 : Addr} {od2 an2 : Option Addr} {sl2 : Array (Option Value)} {oc2 kV2 dc2 pm2 cd2 ct2 : Value} {f3 : Addr} {od3 an3 : Option Addr} {sl3 : Array (Option Value)} {oc3 kV3 dc3 pm3 cd3 ct3 : Value} {f4 : Addr} {od4 an4 : Option Addr} {sl4 : Array (Option Value)} {oc4 kV4 dc4 pm4 cd4 ct4 : Value} {f5 : Addr} {od5 an5 : Option Addr} {sl5 : Array (Option Value)} {oc5 kV5 dc5 pm5 cd5 ct5 : Value} {f6 : Addr} {od6 an6 : Option Addr} {sl6 : Array (Option Value)} {oc6 kV6 dc6 pm6 cd6 ct6 : Value} {f7 : Addr} {od7 an7 : Option Addr} {sl7 : Array (Option Value)} {oc7 kV7 dc7 pm7 cd7 ct7 : Value} {f8 : Addr} {od8 an8 : Option Addr} {sl8 : Array (Option Value)} {oc8 kV8 dc8 pm8 cd8 ct8 : Value} {f9 : Addr} {od9 an9 : Option Addr} {sl9 : Array (Option Value)} {oc9 kV9 dc9 pm9 cd9 ct9 : Value} {f10 : Addr} {od10 an10 : Option Addr} {sl10 : Array (Option Value)} {oc10 kV10 dc10 pm10 cd10 ct10 : Value} {f11 : Addr} {od11 an11 : Option Addr} {sl11 : Array (Option Value)} {oc11 kV11 dc11 pm11 cd11 ct11 : Value} {f12 : Addr} {od12 an12 : Option Addr} {sl12 : Array (Option Value)} {oc12 kV12 dc12 pm12 cd12 ct12 : Value} {f13 : Addr} {od13 an13 : Option Addr} {sl13 : Array (Option Value)} {oc13 kV13 dc13 pm13 cd13 ct13 : Value} {f14 : Addr} {od14 an14 : Option Addr} {sl14 : Array (Option Value)} {oc14 kV14 dc14 pm14 cd14 ct14 : Value} {f15 : Addr} {od15 an15 : Option Addr} {sl15 : Array (Option Value)} {oc15 kV15 dc15 pm15 cd15 ct15 : Value} {f16 : Addr} {od16 an16 : Option Addr} {sl16 : Array (Option Value)} {oc16 kV16 dc16 pm16 cd16 ct16 : Value} {f17 : Addr} {od17 an17 : Option Addr} {sl17 : Array (Option Value)} {oc17 kV17 dc17 pm17 cd17 ct17 : Value} {c_LadderError c_NoBook c_NoFit c_NoGame c_NoNumber c_NoPlayer c_NoRow c_NoStretch c_NoTable c_NoTree c_NoWorth : Addr} {t_DEEPEST : Tok} {t_LETTERS : Tok} {t_LONGEST_NAME : Tok} {t_MOST_NAMES : Tok} (X : K.In h) (G : h.Ns mainGlobals mg) (hfa : mg "law" = some (.ref fa)) (a0 : PySem.W.nsIn K mainGlobals "is_name" = some (some (.ref f0))) (l0 : K.lookup f0 = some ⟨oc0, od0, .func (PySem.W.fnOf "is_name" "is_name" (defArgs s_is_name) (defBody s_is_name) (defScope s_is_name) .none kV0 dc0 pm0 an0 cd0 ct0), sl0⟩) (e0 : PySem.W.codeIn K cd0 "is_name" = true) (k0 : PySem.W.keepIn K (.ref f0) = true) (a1 : PySem.W.nsIn K mainGlobals "leaves" = some (some (.ref f1))) (l1 : K.lookup f1 = some ⟨oc1, od1, .func (PySem.W.fnOf "leaves" "leaves" (defArgs s_leaves) (defBody s_leaves) (defScope s_leaves) .none kV1 dc1 pm1 an1 cd1 ct1), sl1⟩) (e1 : PySem.W.codeIn K cd1 "leaves" = true) (k1 : PySem.W.keepIn K (.ref f1) = true) (a2 : PySem.W.nsIn K mainGlobals "read_tree" = some (some (.ref f2))) (l2 : K.lookup f2 = some ⟨oc2, od2, .func (PySem.W.fnOf "read_tree" "read_tree" (defArgs s_read_tree) (defBody s_read_tree) (defScope s_read_tree) .none kV2 dc2 pm2 an2 cd2 ct2), sl2⟩) (e2 : PySem.W.codeIn K cd2 "read_tree" = true) (k2 : PySem.W.keepIn K (.ref f2) = true) (a3 : PySem.W.nsIn K mainGlobals "read_part" = some (some (.ref f3))) (l3 : K.lookup f3 = some ⟨oc3, od3, .func (PySem.W.fnOf "read_part" "read_part" (defArgs s_read_part) (defBody s_read_part) (defScope s_read_part) .none kV3 dc3 pm3 an3 cd3 ct3), sl3⟩) (e3 : PySem.W.codeIn K cd3 "read_part" = true) (k3 : PySem.W.keepIn K (.ref f3) = true) (a4 : PySem.W.nsIn K mainGlobals "read_word" = some (some (.ref f4))) (l4 : K.lookup f4 = some ⟨oc4, od4, .func (PySem.W.fnOf "read_word" "read_word" (defArgs s_read_word) (defBody s_read_word) (defScope s_read_word) .none kV4 dc4 pm4 an4 cd4 ct4), sl4⟩) (e4 : PySem.W.codeIn K cd4 "read_word" = true) (k4 : PySem.W.keepIn K (.ref f4) = true) (a5 : PySem.W.nsIn K mainGlobals "check_sign" = some (some (.ref f5))) (l5 : K.lookup f5 = some ⟨oc5, od5, .func (PySem.W.fnOf "check_sign" "check_sign" (defArgs s_check_sign) (defBody s_check_sign) (defScope s_check_sign) .none kV5 dc5 pm5 an5 cd5 ct5), sl5⟩) (e5 : PySem.W.codeIn K cd5 "check_sign" = true) (k5 : PySem.W.keepIn K (.ref f5) = true) (a6 : PySem.W.nsIn K mainGlobals "show_tree" = some (some (.ref f6))) (l6 : K.lookup f6 = some ⟨oc6, od6, .func (PySem.W.fnOf "show_tree" "show_tree" (defArgs s_show_tree) (defBody s_show_tree) (defScope s_show_tree) .none kV6 dc6 pm6 an6 cd6 ct6), sl6⟩) (e6 : PySem.W.codeIn K cd6 "show_tree" = true) (k6 : PySem.W.keepIn K (.ref f6) = true) (a7 : PySem.W.nsIn K mainGlobals "show_part" = some (some (.ref f7))) (l7 : K.lookup f7 = some ⟨oc7, od7, .func (PySem.W.fnOf "show_part" "show_part" (defArgs s_show_part) (defBody s_show_part) (defScope s_show_part) .none kV7 dc7 pm7 an7 cd7 ct7), sl7⟩) (e7 : PySem.W.codeIn K cd7 "show_part" = true) (k7 : PySem.W.keepIn K (.ref f7) = true) (a8 : PySem.W.nsIn K mainGlobals "_law_cell_at" = some (some (.ref f8))) (l8 : K.lookup f8 = some ⟨oc8, od8, .func (PySem.W.fnOf "_law_cell_at" "_law_cell_at" (defArgs s_l_cell_at) (defBody s_l_cell_at) (defScope s_l_cell_at) .none kV8 dc8 pm8 an8 cd8 ct8), sl8⟩) (e8 : PySem.W.codeIn K cd8 "_law_cell_at" = true) (k8 : PySem.W.keepIn K (.ref f8) = true) (a9 : PySem.W.nsIn K mainGlobals "_law_stream" = some (some (.ref f9))) (l9 : K.lookup f9 = some ⟨oc9, od9, .func (PySem.W.fnOf "_law_stream" "_law_stream" (defArgs s_l_stream) (defBody s_l_stream) (defScope s_l_stream) .none kV9 dc9 pm9 an9 cd9 ct9), sl9⟩) (e9 : PySem.W.codeIn K cd9 "_law_stream" = true) (k9 : PySem.W.keepIn K (.ref f9) = true) (a10 : PySem.W.nsIn K mainGlobals "_law_text" = some (some (.ref f10))) (l10 : K.lookup f10 = some ⟨oc10, od10, .func (PySem.W.fnOf "_law_text" "_law_text" (defArgs s_l_text) (defBody s_l_text) (defScope s_l_text) .none kV10 dc10 pm10 an10 cd10 ct10), sl10⟩) (e10 : PySem.W.codeIn K cd10 "_law_text" = true) (k10 : PySem.W.keepIn K (.ref f10) = true) (a11 : PySem.W.nsIn K mainGlobals "_law_spoiled" = some (some (.ref f11))) (l11 : K.lookup f11 = some ⟨oc11, od11, .func (PySem.W.fnOf "_law_spoiled" "_law_spoiled" (defArgs s_l_spoiled) (defBody s_l_spoiled) (defScope s_l_spoiled) .none kV11 dc11 pm11 an11 cd11 ct11), sl11⟩) (e11 : PySem.W.codeIn K cd11 "_law_spoiled" = true) (k11 : PySem.W.keepIn K (.ref f11) = true) (a12 : PySem.W.nsIn K mainGlobals "_law_words" = some (some (.ref f12))) (l12 : K.lookup f12 = some ⟨oc12, od12, .func (PySem.W.fnOf "_law_words" "_law_words" (defArgs s_l_words) (defBody s_l_words) (defScope s_l_words) .none kV12 dc12 pm12 an12 cd12 ct12), sl12⟩) (e12 : PySem.W.codeIn K cd12 "_law_words" = true) (k12 : PySem.W.keepIn K (.ref f12) = true) (a13 : PySem.W.nsIn K mainGlobals "_law_is_name" = some (some (.ref f13))) (l13 : K.lookup f13 = some ⟨oc13, od13, .func (PySem.W.fnOf "_law_is_name" "_law_is_name" (defArgs s_l_is_name) (defBody s_l_is_name) (defScope s_l_is_name) .none kV13 dc13 pm13 an13 cd13 ct13), sl13⟩) (e13 : PySem.W.codeIn K cd13 "_law_is_name" = true) (k13 : PySem.W.keepIn K (.ref f13) = true) (a14 : PySem.W.nsIn K mainGlobals "_law_is_tree" = some (some (.ref f14))) (l14 : K.lookup f14 = some ⟨oc14, od14, .func (PySem.W.fnOf "_law_is_tree" "_law_is_tree" (defArgs s_l_is_tree) (defBody s_l_is_tree) (defScope s_l_is_tree) .none kV14 dc14 pm14 an14 cd14 ct14), sl14⟩) (e14 : PySem.W.codeIn K cd14 "_law_is_tree" = true) (k14 : PySem.W.keepIn K (.ref f14) = true) (a15 : PySem.W.nsIn K mainGlobals "_law_no_tree" = some (some (.ref f15))) (l15 : K.lookup f15 = some ⟨oc15, od15, .func (PySem.W.fnOf "_law_no_tree" "_law_no_tree" (defArgs s_l_no_tree) (defBody s_l_no_tree) (defScope s_l_no_tree) .none kV15 dc15 pm15 an15 cd15 ct15), sl15⟩) (e15 : PySem.W.codeIn K cd15 "_law_no_tree" = true) (k15 : PySem.W.keepIn K (.ref f15) = true) (a16 : PySem.W.nsIn K mainGlobals "_law_told" = some (some (.ref f16))) (l16 : K.lookup f16 = some ⟨oc16, od16, .func (PySem.W.fnOf "_law_told" "_law_told" (defArgs s_l_told) (defBody s_l_told) (defScope s_l_told) .none kV16 dc16 pm16 an16 cd16 ct16), sl16⟩) (e16 : PySem.W.codeIn K cd16 "_law_told" = true) (k16 : PySem.W.keepIn K (.ref f16) = true) (a17 : PySem.W.nsIn K mainGlobals "law" = some (some (.ref f17))) (l17 : K.lookup f17 = some ⟨oc17, od17, .func (PySem.W.fnOf "law" "law" (defArgs s_law) (defBody s_law) (defScope s_law) .none kV17 dc17 pm17 an17 cd17 ct17), sl17⟩) (e17 : PySem.W.codeIn K cd17 "law" = true) (k17 : PySem.W.keepIn K (.ref f17) = true) (z_ValueError : PySem.W.nsIn K mainGlobals "ValueError" = some none) (z_all : PySem.W.nsIn K mainGlobals "all" = some none) (z_isinstance : PySem.W.nsIn K mainGlobals "isinstance" = some none) (z_len : PySem.W.nsIn K mainGlobals "len" = some none) (z_list : PySem.W.nsIn K mainGlobals "list" = some none) (z_min : PySem.W.nsIn K mainGlobals "min" = some none) (z_range : PySem.W.nsIn K mainGlobals "range" = some none) (z_str : PySem.W.nsIn K mainGlobals "str" = some none) (z_tuple : PySem.W.nsIn K mainGlobals "tuple" = some none) (y_LadderError : PySem.W.nsIn K mainGlobals "LadderError" = some (some (.ref c_LadderError))) (y_NoBook : PySem.W.nsIn K mainGlobals "NoBook" = some (some (.ref c_NoBook))) (y_NoFit : PySem.W.nsIn K mainGlobals "NoFit" = some (some (.ref c_NoFit))) (y_NoGame : PySem.W.nsIn K mainGlobals "NoGame" = some (some (.ref c_NoGame))) (y_NoNumber : PySem.W.nsIn K mainGlobals "NoNumber" = some (some (.ref c_NoNumber))) (y_NoPlayer : PySem.W.nsIn K mainGlobals "NoPlayer" = some (some (.ref c_NoPlayer))) (y_NoRow : PySem.W.nsIn K mainGlobals "NoRow" = some (some (.ref c_NoRow))) (y_NoStretch : PySem.W.nsIn K mainGlobals "NoStretch" = some (some (.ref c_NoStretch))) (y_NoTable : PySem.W.nsIn K mainGlobals "NoTable" = some (some (.ref c_NoTable))) (y_NoTree : PySem.W.nsIn K mainGlobals "NoTree" = some (some (.ref c_NoTree))) (y_NoWorth : PySem.W.nsIn K mainGlobals "NoWorth" = some (some (.ref c_NoWorth))) (q_LadderError_nw : PySem.W.excIn K c_LadderError vB "ValueError.__new__" = true) (q_LadderError_ga : PySem.W.findIn K (.ref c_LadderError) "__getattribute__" = some (some (.builtin "BaseException.__getattribute__"))) (q_LadderError_gn : PySem.W.findIn K (.ref c_LadderError) "__getattr__" = some none) (q_LadderError_cl : PySem.W.findIn K (.ref c_LadderError) "__class__" = some (some (.builtin "object.__class__"))) (q_LadderError_mo : PySem.W.mroIn K c_LadderError (.type "object") = some true) (q_LadderError_mb : PySem.W.mroIn K c_LadderError (.type "BaseException") = some true) (q_NoTree_nw : PySem.W.excIn K c_NoTree vB "ValueError.__new__" = true) (q_NoTree_ga : PySem.W.findIn K (.ref c_NoTree) "__getattribute__" = some (some (.builtin "BaseException.__getattribute__"))) (q_NoTree_gn : PySem.W.findIn K (.ref c_NoTree) "__getattr__" = some none) (q_NoTree_cl : PySem.W.findIn K (.ref c_NoTree) "__class__" = some (some (.builtin "object.__class__"))) (q_NoTree_mo : PySem.W.mroIn K c_NoTree (.type "object") = some true) (q_NoTree_mb : PySem.W.mroIn K c_NoTree (.type "BaseException") = some true) (kv_NoTree : PySem.W.kitOne K (.ref c_NoTree) (.type "ValueError") = some true) (kk_NoTree_LadderError : PySem.W.kitOne K (.ref c_NoTree) (.ref c_LadderError) = some true) (kk_NoTree_NoBook : PySem.W.kitOne K (.ref c_NoTree) (.ref c_NoBook) = some false) (kk_NoTree_NoFit : PySem.W.kitOne K (.ref c_NoTree) (.ref c_NoFit) = some false) (kk_NoTree_NoGame : PySem.W.kitOne K (.ref c_NoTree) (.ref c_NoGame) = some false) (kk_NoTree_NoNumber : PySem.W.kitOne K (.ref c_NoTree) (.ref c_NoNumber) = some false) (kk_NoTree_NoPlayer : PySem.W.kitOne K (.ref c_NoTree) (.ref c_NoPlayer) = some false) (kk_NoTree_NoRow : PySem.W.kitOne K (.ref c_NoTree) (.ref c_NoRow) = some false) (kk_NoTree_NoStretch : PySem.W.kitOne K (.ref c_NoTree) (.ref c_NoStretch) = some false) (kk_NoTree_NoTable : PySem.W.kitOne K (.ref c_NoTree) (.ref c_NoTable) = some false) (kk_NoTree_NoTree : PySem.W.kitOne K (.ref c_NoTree) (.ref c_NoTree) = some true) (kk_NoTree_NoWorth : PySem.W.kitOne K (.ref c_NoTree) (.ref c_NoWorth) = some false) (km_NoTree_LadderError : PySem.W.mroIn K c_NoTree (.ref c_LadderError) = some true) (km_NoTree_NoTree : PySem.W.mroIn K c_NoTree (.ref c_NoTree) = some true) (u_DEEPEST : PySem.W.nsIn K mainGlobals "DEEPEST" = some (some (.int (7) t_DEEPEST))) (u_LETTERS : PySem.W.nsIn K mainGlobals "LETTERS" = some (some (.str "abcdefghijklmnopqrstuvwxyz" t_LETTERS))) (u_LONGEST_NAME : PySem.W.nsIn K mainGlobals "LONGEST_NAME" = some (some (.int (8) t_LONGEST_NAME))) (u_MOST_NAMES : PySem.W.nsIn K mainGlobals "MOST_NAMES" = some (some (.int (8) t_MOST_NAMES))) :
    ∃ fd : FuncData, (∀ (s : Shared) (v : Value), BindsTo s fd ⟨[v], []⟩ [("_law_script", v)]) ∧ ∀ base : Heap, K.In base → base.Ns mainGlobals mg → FnOk l.prog w K mg base (CXE l.prog w) 13 fa fd ["_law_script"] (sp_lawA K) := by
  have F0 := fun_mk (st := s_is_name) l0 e0 k0
  have d0 : Dfn K mg "is_name" s_is_name ["thing"] := ⟨⟨_, _, F0, PySem.W.mg_of X G a0, F0.binds fun _ _ _ _ _ _ us hl => by obtain ⟨_, rfl⟩ := lenE1 us hl; rfl⟩⟩
  have F1 := fun_mk (st := s_leaves) l1 e1 k1
  have d1 : Dfn K mg "leaves" s_leaves ["tree"] := ⟨⟨_, _, F1, PySem.W.mg_of X G a1, F1.binds fun _ _ _ _ _ _ us hl => by obtain ⟨_, rfl⟩ := lenE1 us hl; rfl⟩⟩
  have F2 := fun_mk (st := s_read_tree) l2 e2 k2
  have d2 : Dfn K mg "read_tree" s_read_tree ["text"] := ⟨⟨_, _, F2, PySem.W.mg_of X G a2, F2.binds fun _ _ _ _ _ _ us hl => by obtain ⟨_, rfl⟩ := lenE1 us hl; rfl⟩⟩
  have F3 := fun_mk (st := s_read_part) l3 e3 k3
  have d3 : Dfn K mg "read_part" s_read_part ["text", "start", "depth"] := ⟨⟨_, _, F3, PySem.W.mg_of X G a3, F3.binds fun _ _ _ _ _ _ us hl => by obtain ⟨_, _, _, rfl⟩ := lenE3 us hl; rfl⟩⟩
  have F4 := fun_mk (st := s_read_word) l4 e4 k4
  have d4 : Dfn K mg "read_word" s_read_word ["text", "start"] := ⟨⟨_, _, F4, PySem.W.mg_of X G a4, F4.binds fun _ _ _ _ _ _ us hl => by obtain ⟨_, _, rfl⟩ := lenE2 us hl; rfl⟩⟩
  have F5 := fun_mk (st := s_check_sign) l5 e5 k5
  have d5 : Dfn K mg "check_sign" s_check_sign ["text", "at", "sign"] := ⟨⟨_, _, F5, PySem.W.mg_of X G a5, F5.binds fun _ _ _ _ _ _ us hl => by obtain ⟨_, _, _, rfl⟩ := lenE3 us hl; rfl⟩⟩
  have F6 := fun_mk (st := s_show_tree) l6 e6 k6
  have d6 : Dfn K mg "show_tree" s_show_tree ["tree"] := ⟨⟨_, _, F6, PySem.W.mg_of X G a6, F6.binds fun _ _ _ _ _ _ us hl => by obtain ⟨_, rfl⟩ := lenE1 us hl; rfl⟩⟩
  have F7 := fun_mk (st := s_show_part) l7 e7 k7
  have d7 : Dfn K mg "show_part" s_show_part ["part"] := ⟨⟨_, _, F7, PySem.W.mg_of X G a7, F7.binds fun _ _ _ _ _ _ us hl => by obtain ⟨_, rfl⟩ := lenE1 us hl; rfl⟩⟩
  have F8 := fun_mk (st := s_l_cell_at) l8 e8 k8
  have d8 : Dfn K mg "_law_cell_at" s_l_cell_at ["_law_script", "_law_k"] := ⟨⟨_, _, F8, PySem.W.mg_of X G a8, F8.binds fun _ _ _ _ _ _ us hl => by obtain ⟨_, _, rfl⟩ := lenE2 us hl; rfl⟩⟩
  have F9 := fun_mk (st := s_l_stream) l9 e9 k9
  have d9 : Dfn K mg "_law_stream" s_l_stream ["_law_cell", "_law_salt", "_law_many"] := ⟨⟨_, _, F9, PySem.W.mg_of X G a9, F9.binds fun _ _ _ _ _ _ us hl => by obtain ⟨_, _, _, rfl⟩ := lenE3 us hl; rfl⟩⟩
  have F10 := fun_mk (st := s_l_text) l10 e10 k10
  have d10 : Dfn K mg "_law_text" s_l_text ["_law_names", "_law_xs"] := ⟨⟨_, _, F10, PySem.W.mg_of X G a10, F10.binds fun _ _ _ _ _ _ us hl => by obtain ⟨_, _, rfl⟩ := lenE2 us hl; rfl⟩⟩
  have F11 := fun_mk (st := s_l_spoiled) l11 e11 k11
  have d11 : Dfn K mg "_law_spoiled" s_l_spoiled ["_law_text_here", "_law_xs"] := ⟨⟨_, _, F11, PySem.W.mg_of X G a11, F11.binds fun _ _ _ _ _ _ us hl => by obtain ⟨_, _, rfl⟩ := lenE2 us hl; rfl⟩⟩
  have F12 := fun_mk (st := s_l_words) l12 e12 k12
  have d12 : Dfn K mg "_law_words" s_l_words ["_law_text_here"] := ⟨⟨_, _, F12, PySem.W.mg_of X G a12, F12.binds fun _ _ _ _ _ _ us hl => by obtain ⟨_, rfl⟩ := lenE1 us hl; rfl⟩⟩
  have F13 := fun_mk (st := s_l_is_name) l13 e13 k13
  have d13 : Dfn K mg "_law_is_name" s_l_is_name ["_law_word"] := ⟨⟨_, _, F13, PySem.W.mg_of X G a13, F13.binds fun _ _ _ _ _ _ us hl => by obtain ⟨_, rfl⟩ := lenE1 us hl; rfl⟩⟩
  have F14 := fun_mk (st := s_l_is_tree) l14 e14 k14
  have d14 : Dfn K mg "_law_is_tree" s_l_is_tree ["_law_text_here"] := ⟨⟨_, _, F14, PySem.W.mg_of X G a14, F14.binds fun _ _ _ _ _ _ us hl => by obtain ⟨_, rfl⟩ := lenE1 us hl; rfl⟩⟩
  have F15 := fun_mk (st := s_l_no_tree) l15 e15 k15
  have d15 : Dfn K mg "_law_no_tree" s_l_no_tree ["_law_error"] := ⟨⟨_, _, F15, PySem.W.mg_of X G a15, F15.binds fun _ _ _ _ _ _ us hl => by obtain ⟨_, rfl⟩ := lenE1 us hl; rfl⟩⟩
  have F16 := fun_mk (st := s_l_told) l16 e16 k16
  have d16 : Dfn K mg "_law_told" s_l_told ["_law_text_here", "_law_base"] := ⟨⟨_, _, F16, PySem.W.mg_of X G a16, F16.binds fun _ _ _ _ _ _ us hl => by obtain ⟨_, _, rfl⟩ := lenE2 us hl; rfl⟩⟩
  have F17 := fun_mk (st := s_law) l17 e17 k17
  have d17 : Dfn K mg "law" s_law ["_law_script"] := ⟨⟨_, _, F17, PySem.W.mg_of X G a17, F17.binds fun _ _ _ _ _ _ us hl => by obtain ⟨_, rfl⟩ := lenE1 us hl; rfl⟩⟩
  have e := hfa.symm.trans (PySem.W.mg_of X G a17)
  cases e
  exact ⟨PySem.W.fnOf "law" "law" (defArgs s_law) (defBody s_law) (defScope s_law) .none kV17 dc17 pm17 an17 cd17 ct17, fun s v => .of_eq rfl, fun base _ _ => law_fn F17 (PySem.W.mg_of X G a17) fun ns => ok_all (ns := ns) d0 d1 d2 d3 d4 d5 d6 d7 d8 d9 d10 d11 d12 d13 d14 d15 d16 d17 ⟨PySem.W.mg_of X G y_LadderError, PySem.W.mg_of X G y_NoBook, PySem.W.mg_of X G y_NoFit, PySem.W.mg_of X G y_NoGame, PySem.W.mg_of X G y_NoNumber, PySem.W.mg_of X G y_NoPlayer, PySem.W.mg_of X G y_NoRow, PySem.W.mg_of X G y_NoStretch, PySem.W.mg_of X G y_NoTable, PySem.W.mg_of X G y_NoTree, PySem.W.mg_of X G y_NoWorth, y_NoTree, ⟨q_LadderError_nw, q_LadderError_ga, q_LadderError_gn, q_LadderError_cl, q_LadderError_mo, q_LadderError_mb⟩, ⟨q_NoTree_nw, q_NoTree_ga, q_NoTree_gn, q_NoTree_cl, q_NoTree_mo, q_NoTree_mb⟩, kv_NoTree, kk_NoTree_LadderError, kk_NoTree_NoBook, kk_NoTree_NoFit, kk_NoTree_NoGame, kk_NoTree_NoNumber, kk_NoTree_NoPlayer, kk_NoTree_NoRow, kk_NoTree_NoStretch, kk_NoTree_NoTable, kk_NoTree_NoTree, kk_NoTree_NoWorth, km_NoTree_LadderError, km_NoTree_NoTree⟩ (PySem.W.mg_none_of X G z_ValueError) (PySem.W.mg_none_of X G z_all) (PySem.W.mg_none_of X G z_isinstance) (PySem.W.mg_none_of X G z_len) (PySem.W.mg_none_of X G z_list) (PySem.W.mg_none_of X G z_min) (PySem.W.mg_none_of X G z_range) (PySem.W.mg_none_of X G z_str) (PySem.W.mg_none_of X G z_tuple) ⟨_, PySem.W.mg_of X G u_DEEPEST, ⟨_, rfl⟩⟩ ⟨_, PySem.W.mg_of X G u_LETTERS, ⟨_, rfl⟩⟩ ⟨_, PySem.W.mg_of X G u_LONGEST_NAME, ⟨_, rfl⟩⟩ ⟨_, PySem.W.mg_of X G u_MOST_NAMES, ⟨_, rfl⟩⟩⟩
theorem walk {l : PySem.W.OpenLaw} {q : Program} {loose : List Str} {XP : (Str → Option Value) → Heap → Prop} {YP : World → Heap → Prop} {d : DefRec} {K : Params → PySem.W.Frag} (hn : l.most = some 63) (hdf : d.params.defaults = [])
    (hY : ∀ (w : World) (h : Heap), YP w h → (K w.params).In h)
    (F : ∀ (w : World) (mg : Str → Option Value) (fa : Addr) (h : Heap), (K w.params).In h → h.Ns mainGlobals mg → mg d.name = some (.ref fa) →
      ∃ fd : FuncData, (∀ (s : Shared) (u : Value), BindsTo s fd ⟨[u], []⟩ [("_law_script", u)]) ∧ ∀ base : Heap, (K w.params).In base → base.Ns mainGlobals mg → FnOk l.prog w (K w.params) mg base (CXE l.prog w) 13 fa fd ["_law_script"] (sp_lawA (K w.params))) :
    PySem.W.WalkO q loose XP YP l.row.toRowW d [] (fun f vs => PySem.call f vs) :=
  L2.walk_of (n := 63) (k := 13) (x := "_law_script") (CX := fun w => CXE l.prog w) (sp := fun w => sp_lawA (K w.params)) hn (by decide) hdf ⟨rfl, by decide, by decide⟩ hY F (fun _ _ a ns hl _ hS => ⟨ns, a, rfl, hS, hl, fun _ => rfl⟩) fun _ _ _ _ _ z => cxe0 z
end My
open PySem PySem.W PyProof.Rows
set_option maxRecDepth 100000 in
set_option maxHeartbeats 0 in
theorem PySem.Challenge.cw_ladderworth_k82_no_trees_holds : PySem.Challenge.rw_ladderworth_k82_no_trees.Holds := by
  w_on; o_law; k_head; (case hw => w_witness2)
  k_fill
  refine My.walk (l := PySem.Challenge.rw_ladderworth_k82_no_trees) rfl rfl (fun w h Y => PySem.W.kIn_of Y) ?F
  case F =>
    intro w mg fa h KX G hmg
    refine' My.all_mk KX G hmg ?a0 ?l0 ?e0 ?k0 ?a1 ?l1 ?e1 ?k1 ?a2 ?l2 ?e2 ?k2 ?a3 ?l3 ?e3 ?k3 ?a4 ?l4 ?e4 ?k4 ?a5 ?l5 ?e5 ?k5 ?a6 ?l6 ?e6 ?k6 ?a7 ?l7 ?e7 ?k7 ?a8 ?l8 ?e8 ?k8 ?a9 ?l9 ?e9 ?k9 ?a10 ?l10 ?e10 ?k10 ?a11 ?l11 ?e11 ?k11 ?a12 ?l12 ?e12 ?k12 ?a13 ?l13 ?e13 ?k13 ?a14 ?l14 ?e14 ?k14 ?a15 ?l15 ?e15 ?k15 ?a16 ?l16 ?e16 ?k16 ?a17 ?l17 ?e17 ?k17 ?z_ValueError ?z_all ?z_isinstance ?z_len ?z_list ?z_min ?z_range ?z_str ?z_tuple ?y_LadderError ?y_NoBook ?y_NoFit ?y_NoGame ?y_NoNumber ?y_NoPlayer ?y_NoRow ?y_NoStretch ?y_NoTable ?y_NoTree ?y_NoWorth ?q_LadderError_nw ?q_LadderError_ga ?q_LadderError_gn ?q_LadderError_cl ?q_LadderError_mo ?q_LadderError_mb ?q_NoTree_nw ?q_NoTree_ga ?q_NoTree_gn ?q_NoTree_cl ?q_NoTree_mo ?q_NoTree_mb ?kv_NoTree ?kk_NoTree_LadderError ?kk_NoTree_NoBook ?kk_NoTree_NoFit ?kk_NoTree_NoGame ?kk_NoTree_NoNumber ?kk_NoTree_NoPlayer ?kk_NoTree_NoRow ?kk_NoTree_NoStretch ?kk_NoTree_NoTable ?kk_NoTree_NoTree ?kk_NoTree_NoWorth ?km_NoTree_LadderError ?km_NoTree_NoTree ?u_DEEPEST ?u_LETTERS ?u_LONGEST_NAME ?u_MOST_NAMES
    (case a0 => k_is)
    (case l0 => k_is)
    (case e0 => k_is)
    (case k0 => k_is)
    (case a1 => k_is)
    (case l1 => k_is)
    (case e1 => k_is)
    (case k1 => k_is)
    (case a2 => k_is)
    (case l2 => k_is)
    (case e2 => k_is)
    (case k2 => k_is)
    (case a3 => k_is)
    (case l3 => k_is)
    (case e3 => k_is)
    (case k3 => k_is)
    (case a4 => k_is)
    (case l4 => k_is)
    (case e4 => k_is)
    (case k4 => k_is)
    (case a5 => k_is)
    (case l5 => k_is)
    (case e5 => k_is)
    (case k5 => k_is)
    (case a6 => k_is)
    (case l6 => k_is)
    (case e6 => k_is)
    (case k6 => k_is)
    (case a7 => k_is)
    (case l7 => k_is)
    (case e7 => k_is)
    (case k7 => k_is)
    (case a8 => k_is)
    (case l8 => k_is)
    (case e8 => k_is)
    (case k8 => k_is)
    (case a9 => k_is)
    (case l9 => k_is)
    (case e9 => k_is)
    (case k9 => k_is)
    (case a10 => k_is)
    (case l10 => k_is)
    (case e10 => k_is)
    (case k10 => k_is)
    (case a11 => k_is)
    (case l11 => k_is)
    (case e11 => k_is)
    (case k11 => k_is)
    (case a12 => k_is)
    (case l12 => k_is)
    (case e12 => k_is)
    (case k12 => k_is)
    (case a13 => k_is)
    (case l13 => k_is)
    (case e13 => k_is)
    (case k13 => k_is)
    (case a14 => k_is)
    (case l14 => k_is)
    (case e14 => k_is)
    (case k14 => k_is)
    (case a15 => k_is)
    (case l15 => k_is)
    (case e15 => k_is)
    (case k15 => k_is)
    (case a16 => k_is)
    (case l16 => k_is)
    (case e16 => k_is)
    (case k16 => k_is)
    (case a17 => k_is)
    (case l17 => k_is)
    (case e17 => k_is)
    (case k17 => k_is)
    (case z_ValueError => k_is)
    (case z_all => k_is)
    (case z_isinstance => k_is)
    (case z_len => k_is)
    (case z_list => k_is)
    (case z_min => k_is)
    (case z_range => k_is)
    (case z_str => k_is)
    (case z_tuple => k_is)
    (case y_LadderError => first | k_is | k_exc | kernel_rfl)
    (case y_NoBook => first | k_is | k_exc | kernel_rfl)
    (case y_NoFit => first | k_is | k_exc | kernel_rfl)
    (case y_NoGame => first | k_is | k_exc | kernel_rfl)
    (case y_NoNumber => first | k_is | k_exc | kernel_rfl)
    (case y_NoPlayer => first | k_is | k_exc | kernel_rfl)
    (case y_NoRow => first | k_is | k_exc | kernel_rfl)
    (case y_NoStretch => first | k_is | k_exc | kernel_rfl)
    (case y_NoTable => first | k_is | k_exc | kernel_rfl)
    (case y_NoTree => first | k_is | k_exc | kernel_rfl)
    (case y_NoWorth => first | k_is | k_exc | kernel_rfl)
    (case q_LadderError_nw => first | k_is | k_exc | kernel_rfl)
    (case q_LadderError_ga => first | k_is | k_exc | kernel_rfl)
    (case q_LadderError_gn => first | k_is | k_exc | kernel_rfl)
    (case q_LadderError_cl => first | k_is | k_exc | kernel_rfl)
    (case q_LadderError_mo => first | k_is | k_exc | kernel_rfl)
    (case q_LadderError_mb => first | k_is | k_exc | kernel_rfl)
    (case q_NoTree_nw => first | k_is | k_exc | kernel_rfl)
    (case q_NoTree_ga => first | k_is | k_exc | kernel_rfl)
    (case q_NoTree_gn => first | k_is | k_exc | kernel_rfl)
    (case q_NoTree_cl => first | k_is | k_exc | kernel_rfl)
    (case q_NoTree_mo => first | k_is | k_exc | kernel_rfl)
    (case q_NoTree_mb => first | k_is | k_exc | kernel_rfl)
    (case kv_NoTree => first | k_is | k_exc | kernel_rfl)
    (case kk_NoTree_LadderError => first | k_is | k_exc | kernel_rfl)
    (case kk_NoTree_NoBook => first | k_is | k_exc | kernel_rfl)
    (case kk_NoTree_NoFit => first | k_is | k_exc | kernel_rfl)
    (case kk_NoTree_NoGame => first | k_is | k_exc | kernel_rfl)
    (case kk_NoTree_NoNumber => first | k_is | k_exc | kernel_rfl)
    (case kk_NoTree_NoPlayer => first | k_is | k_exc | kernel_rfl)
    (case kk_NoTree_NoRow => first | k_is | k_exc | kernel_rfl)
    (case kk_NoTree_NoStretch => first | k_is | k_exc | kernel_rfl)
    (case kk_NoTree_NoTable => first | k_is | k_exc | kernel_rfl)
    (case kk_NoTree_NoTree => first | k_is | k_exc | kernel_rfl)
    (case kk_NoTree_NoWorth => first | k_is | k_exc | kernel_rfl)
    (case km_NoTree_LadderError => first | k_is | k_exc | kernel_rfl)
    (case km_NoTree_NoTree => first | k_is | k_exc | kernel_rfl)
    (case u_DEEPEST => first | k_is | k_exc | kernel_rfl)
    (case u_LETTERS => first | k_is | k_exc | kernel_rfl)
    (case u_LONGEST_NAME => first | k_is | k_exc | kernel_rfl)
    (case u_MOST_NAMES => first | k_is | k_exc | kernel_rfl)
#print axioms PySem.Challenge.cw_ladderworth_k82_no_trees_holds
