import PyProof.Rows.All
import Wide.All
import OpenK.AllK
import Wide.FinOn
import Lean
import PyProof.EqAt
import PyProof.EqKinds
import PyProof.TupleCall
import KE.KSortTup
import KE.KDflt
import PyProof.ListOps
import PyProof.NeKinds
import PyProof.Cells
import PyProof.AutoSeq1
import PyProof.MaxThree
import PySem.Challenge.RW_ladderworth_k51_games_put_in_and_taken_b
set_option Elab.async false
set_option linter.all false
set_option maxRecDepth 100000
namespace L2
open PySem PySem.Spec PyProof.Rows
abbrev Key := Sum Int Str
def keyIs : Key → Value → Bool
  | .inl k, v => Value.isInt k v
  | .inr x, v => Value.isStrOf x v
def keyH (w : World) : Key → Int
  | .inl k => hashInt k
  | .inr x => hashStr w x
theorem keyIs_shape : ∀ {k : Key} {v : Value}, keyIs k v = true → (∃ i t, k = Sum.inl i ∧ v = Value.int i t) ∨ (∃ x t, k = Sum.inr x ∧ v = Value.str x t)
  | .inl i, v, h => by
    obtain ⟨t, e⟩ := Value.isInt_shape (k := i) (v := v) h
    exact .inl ⟨i, t, rfl, e⟩
  | .inr x, v, h => by
    obtain ⟨t, e⟩ := Value.isStrOf_shape (x := x) (v := v) h
    exact .inr ⟨x, t, rfl, e⟩
theorem keyIs_int (i : Int) (t : Tok) : keyIs (.inl i) (.int i t) = true := by simp [keyIs, Value.isInt]
theorem keyIs_str (x : Str) (t : Tok) : keyIs (.inr x) (.str x t) = true := by simp [keyIs, Value.isStrOf]
theorem key_ll (a b : Int) : decide ((Sum.inl a : Key) = Sum.inl b) = (a == b) := by
  by_cases e : a = b
  · subst e; simp
  · have h : ¬ (Sum.inl a : Key) = Sum.inl b := fun q => e (Sum.inl.inj q)
    rw [decide_eq_false h]
    exact (beq_eq_false_iff_ne.mpr e).symm
theorem key_rr (a b : Str) : decide ((Sum.inr a : Key) = Sum.inr b) = decide (a = b) := by
  by_cases e : a = b
  · subst e; simp
  · have h : ¬ (Sum.inr a : Key) = Sum.inr b := fun q => e (Sum.inr.inj q)
    rw [decide_eq_false h, decide_eq_false e]
theorem key_lr (a : Int) (b : Str) : decide ((Sum.inl a : Key) = Sum.inr b) = false := decide_eq_false (fun q => nomatch q)
theorem key_rl (a : Str) (b : Int) : decide ((Sum.inr a : Key) = Sum.inl b) = false := decide_eq_false (fun q => nomatch q)
def mixKind (prog : Program) (w : World) : PySem.KeyKind prog w Key where
  is := keyIs
  hash := keyH w
  inj := fun v a b ha hb => by
    rcases keyIs_shape ha with ⟨i, t, rfl, rfl⟩ | ⟨x, t, rfl, rfl⟩
    · rcases keyIs_shape hb with ⟨j, u, rfl, e⟩ | ⟨y, u, rfl, e⟩
      · injection e with e1 _; rw [e1]
      · exact nomatch e
    · rcases keyIs_shape hb with ⟨j, u, rfl, e⟩ | ⟨y, u, rfl, e⟩
      · exact nomatch e
      · injection e with e1 _; rw [e1]
  byValue := fun k v h => by
    rcases keyIs_shape h with ⟨i, t, rfl, rfl⟩ | ⟨x, t, rfl, rfl⟩ <;> rfl
  pyHash := fun hv h => by
    rcases keyIs_shape hv with ⟨i, t, rfl, rfl⟩ | ⟨x, t, rfl, rfl⟩
    · exact wpAny_pyHash_int h
    · exact wpAny_pyHash_str h
  eqBool := fun hu hv h => by
    rcases keyIs_shape hu with ⟨i, t, rfl, rfl⟩ | ⟨x, t, rfl, rfl⟩
    · rcases keyIs_shape hv with ⟨j, u, rfl, rfl⟩ | ⟨y, u, rfl, rfl⟩
      · rw [key_ll] at h; exact wpAny_eqBool_int h
      · rw [key_lr] at h; exact SeqAt.EqAt.int_str i t y u _ _ _ _ h
    · rcases keyIs_shape hv with ⟨j, u, rfl, rfl⟩ | ⟨y, u, rfl, rfl⟩
      · rw [key_rl] at h; exact SeqAt.EqAt.str_int x t j u _ _ _ _ h
      · rw [key_rr] at h; exact wpAny_eqBool_str h
  «strs» := fun k x t v h => by
    rcases keyIs_shape h with ⟨i, u, rfl, e⟩ | ⟨y, u, rfl, e⟩
    · exact nomatch e
    · injection e with e1 _
      subst e1
      cases v <;> rfl
theorem mixKind_int (prog : Program) (w : World) (i : Int) (t : Tok) : (mixKind prog w).is (.inl i) (.int i t) = true := keyIs_int i t
theorem mixKind_str (prog : Program) (w : World) (x : Str) (t : Tok) : (mixKind prog w).is (.inr x) (.str x t) = true := keyIs_str x t
end L2
namespace L2
open PySem PySem.Spec PyProof.Rows
inductive V where
  | non | bl (b : Bool) | int (i : Int) | str (x : Str) | byt (b : Array UInt8) | flt (b : UInt64) | ref (a : Addr) | ty (n : String)
  deriving DecidableEq
def RelV : V → Value → Prop
  | .non, u => u = Value.none
  | .bl b, u => u = Value.bool b
  | .int i, u => ∃ t, u = Value.int i t
  | .str x, u => ∃ t, u = Value.str x t
  | .byt b, u => ∃ t, u = Value.bytes b t
  | .flt b, u => ∃ t, u = Value.float b t
  | .ref a, u => u = Value.ref a
  | .ty n, u => u = Value.type n
abbrev Vals : List V → List Value → Prop := Paired RelV
theorem Vals.length {xs : List V} {us : List Value} (r : Vals xs us) : xs.length = us.length := Paired.length r
theorem Vals.get : ∀ {xs : List V} {us : List Value} {i : Nat} {x : V}, Vals xs us → xs[i]? = some x → ∃ u, us[i]? = some u ∧ RelV x u
  | _, _, _, _, .nil, e => by simp at e
  | _, _, 0, _, .cons r _, e => by simp at e; subst e; exact ⟨_, rfl, r⟩
  | _, _, i + 1, x, .cons _ t, e => by
    obtain ⟨u, h1, h2⟩ := Vals.get (i := i) (x := x) t (by simpa using e)
    exact ⟨u, by simpa using h1, h2⟩
theorem Vals.append : ∀ {xs ys : List V} {us ws : List Value}, Vals xs us → Vals ys ws → Vals (xs ++ ys) (us ++ ws)
  | _, _, _, _, .nil, s => s
  | _, _, _, _, .cons r t, s => .cons r (Vals.append t s)
theorem Vals.take : ∀ {xs : List V} {us : List Value} (n : Nat), Vals xs us → Vals (xs.take n) (us.take n)
  | _, _, 0, _ => .nil
  | _, _, _ + 1, .nil => .nil
  | _, _, n + 1, .cons r t => .cons r (Vals.take n t)
theorem Vals.drop : ∀ {xs : List V} {us : List Value} (n : Nat), Vals xs us → Vals (xs.drop n) (us.drop n)
  | _, _, 0, r => r
  | _, _, _ + 1, .nil => .nil
  | _, _, n + 1, .cons _ t => Vals.drop n t
def RelO : Option V → Option Value → Prop
  | some v, some u => RelV v u
  | none, none => True
  | _, _ => False
def KV {κ : Type} : List (κ × V) → List (κ × Value) → Prop := Paired fun (p : κ × V) (q : κ × Value) => p.1 = q.1 ∧ RelV p.2 q.2
def kV : Key → V
  | .inl i => .int i
  | .inr x => .str x
inductive HO where
  | lst (xs : List V)
  | tup (xs : List V)
  | dK (kvs : List (Key × V)) | dT (kvs : List (List Key × V))
  | set (S : Int → Bool) (n : Nat)
  | ins (C dx : Addr) (fs : List (Str × V))
  | own (x : Addr)
  | xd (fs : List (Str × V))
  | met (f x : Addr)
  | rng (lo hi : Int)
  | frz (o : Obj) (u : HO)
  | tbl (ps : Array Value)
  | ext (φ : Heap → Prop)
abbrev Hp := Addr → Option HO
def upd (H : Hp) (a : Addr) (o : HO) : Hp := fun b => if b = a then some o else H b
theorem upd_same {H : Hp} {a : Addr} {o : HO} : upd H a o a = some o := by unfold upd; rw [if_pos rfl]
theorem upd_ne {H : Hp} {a b : Addr} {o : HO} (h : b ≠ a) : upd H a o b = H b := by unfold upd; rw [if_neg h]
theorem upd_upd {H : Hp} {a : Addr} {o u : HO} : upd (upd H a o) a u = upd H a u := by
  funext b; unfold upd; split <;> rfl
theorem ne_of {H : Hp} {a b : Addr} {o u : HO} (h : H a = some o) (h' : H b = some u) (d : o ≠ u) : a ≠ b := by
  intro e; subst e; rw [h] at h'; exact d (Option.some.inj h')
theorem ne_of_none {H : Hp} {a b : Addr} {o : HO} (h : H a = some o) (h' : H b = none) : a ≠ b := by
  intro e; subst e; rw [h] at h'; cases h'
section
variable (P : Program) (w : World)
def ObjOk (H : Hp) (h : Heap) (a : Addr) : HO → Prop
  | .lst xs => xs.length ≤ sizeLine ∧ ∃ (its : List Value) (n : Nat), Vals xs its ∧ h.get? a = some { cls := .type "list", data := .seq its.toArray n }
  | .tup xs => xs.length ≤ sizeLine ∧ ∃ its : List Value, Vals xs its ∧ IsTup h a its.toArray
  | .dK kvs => kvs.length ≤ sizeLine ∧ (a == sysModules) = false ∧ ∃ vs, KV kvs vs ∧ h.DictOf (mixKind P w) a vs
  | .dT kvs => kvs.length ≤ sizeLine ∧ (a == sysModules) = false ∧ ∃ xs : List (List Key × Addr × Value),
      Paired (fun (p : List Key × V) (q : List Key × Addr × Value) => p.1 = q.1 ∧ H q.2.1 = some (.tup (p.1.map kV)) ∧ RelV p.2 q.2.2) kvs xs ∧
      ∃ o es ep, h.get? a = some o ∧ o.ExactDict ∧ o.data = .dict es ep ∧ es.toList = xs.map (entryOfKey (tupleKind (mixKind P w))) ∧ (xs.map (·.1)).Nodup
  | .set S n => h.SetOf (intKind P w) a S n
  | .ins C dx fs => H dx = some (.own a) ∧ fs.length ≤ 1000 ∧ dx ≠ a ∧ h.get? a = some (PySem.W.instObj C dx) ∧
      ∃ mA, h.Ns1 dx mA ∧ (∀ f, RelO (fs.lookup f) (mA f)) ∧ PySem.Within mA (fs.map (·.1))
  | .own _ => ∃ o, h.get? a = some o
  | .xd fs => ∃ mA, h.Ns1 a mA ∧ ∀ f, RelO (fs.lookup f) (mA f)
  | .rng lo hi => ∃ t u v, h.get? a = some { cls := .type "range", data := .fields #[.int lo t, .int hi u, .int 1 v] }
  | .frz o u => h.get? a = some o ∧ ObjOk H h a u
  | .tbl ps => h.get? a = some { cls := .none, data := .fields ps }
  | .met f x => h.get? a = some (PySem.W.methodObj (.ref f) (.ref x))
  | .ext φ => φ h ∧ (∃ o, h.get? a = some o) ∧ ∀ h1 h2 : Heap, φ h1 → (∀ o, h1.get? a = some o → h2.get? a = some o) → φ h2
def HOk (H : Hp) (h : Heap) : Prop := ∀ a o, H a = some o → ObjOk P w H h a o
end
section
variable {P : Program} {w : World} {H H' : Hp} {h h' : Heap} {a : Addr} {o : HO}
theorem ObjOk.lt (x : ObjOk P w H h a o) : a < h.objs.size := by
  cases o with
  | lst xs => obtain ⟨_, _, _, _, e⟩ := x; exact Heap.lt_size e
  | tup xs => obtain ⟨_, _, _, p⟩ := x; exact p.lt
  | dK kvs => obtain ⟨_, _, _, _, o, _, _, e, _⟩ := x; exact Heap.lt_size e
  | dT kvs => obtain ⟨_, _, _, _, o, _, _, e, _⟩ := x; exact Heap.lt_size e
  | set S n => obtain ⟨o, _, _, _, e, _⟩ := x; exact Heap.lt_size e
  | ins C dx fs => obtain ⟨_, _, _, e, _⟩ := x; exact Heap.lt_size e
  | own y => obtain ⟨_, e⟩ := x; exact Heap.lt_size e
  | xd fs => obtain ⟨_, ⟨_, _, _, e, _⟩, _⟩ := x; exact Heap.lt_size e
  | rng lo hi => obtain ⟨_, _, _, e⟩ := x; exact Heap.lt_size e
  | frz ob u => obtain ⟨e, _⟩ := x; exact Heap.lt_size e
  | tbl ps => exact Heap.lt_size (show h.get? a = some _ from x)
  | met f y => exact Heap.lt_size (show h.get? a = some _ from x)
  | ext φ => obtain ⟨_, ⟨_, e⟩, _⟩ := x; exact Heap.lt_size e
theorem Paired.mapP {α β : Type} {F G : α → β → Prop} : ∀ {l₁ : List α} {l₂ : List β}, Paired F l₁ l₂ → (∀ a b, F a b → G a b) → Paired G l₁ l₂
  | _, _, .nil, _ => .nil
  | _, _, .cons r t, f => .cons (f _ _ r) (Paired.mapP t f)
theorem ObjOk.stay (x : ObjOk P w H h a o) (k : ∀ b u, (b = a ∨ H b = some (.own a)) → h.get? b = some u → h'.get? b = some u)
    (ho : ∀ b, H b = some (.own a) → H' b = some (.own a)) (ht : ∀ b xs, H b = some (.tup xs) → H' b = some (.tup xs)) : ObjOk P w H' h' a o := by
  induction o with
  | lst xs => obtain ⟨z, its, n, r, e⟩ := x; exact ⟨z, its, n, r, k _ _ (.inl rfl) e⟩
  | tup xs => obtain ⟨z, its, r, ob, e, c⟩ := x; exact ⟨z, its, r, ob, k _ _ (.inl rfl) e, c⟩
  | dK kvs => obtain ⟨z, y, vs, r, ob, es, ep, e, c⟩ := x; exact ⟨z, y, vs, r, ob, es, ep, k _ _ (.inl rfl) e, c⟩
  | dT kvs =>
    obtain ⟨z, y, xs, r, ob, es, ep, e, c⟩ := x
    exact ⟨z, y, xs, Paired.mapP r fun p q z => ⟨z.1, ht _ _ z.2.1, z.2.2⟩, ob, es, ep, k _ _ (.inl rfl) e, c⟩
  | set S n => obtain ⟨ob, es, ep, t, e, c⟩ := x; exact ⟨ob, es, ep, t, k _ _ (.inl rfl) e, c⟩
  | ins C dx fs =>
    obtain ⟨d, z, ne, e, mA, ⟨od, es, ep, e2, c⟩, r⟩ := x
    exact ⟨ho _ d, z, ne, k _ _ (.inl rfl) e, mA, ⟨od, es, ep, k _ _ (.inr d) e2, c⟩, r⟩
  | own y => obtain ⟨ob, e⟩ := x; exact ⟨ob, k _ _ (.inl rfl) e⟩
  | xd fs => obtain ⟨mA, ⟨od, es, ep, e, c⟩, r⟩ := x; exact ⟨mA, ⟨od, es, ep, k _ _ (.inl rfl) e, c⟩, r⟩
  | rng lo hi => obtain ⟨t, u, v, e⟩ := x; exact ⟨t, u, v, k _ _ (.inl rfl) e⟩
  | frz ob u ih => obtain ⟨e, q⟩ := x; exact ⟨k _ _ (.inl rfl) e, ih q⟩
  | tbl ps =>
    have e : h.get? a = some { cls := .none, data := .fields ps } := x
    show h'.get? a = some { cls := .none, data := .fields ps }
    exact k a _ (.inl rfl) e
  | met f y =>
    have e : h.get? a = some (PySem.W.methodObj (.ref f) (.ref y)) := x
    show h'.get? a = some (PySem.W.methodObj (.ref f) (.ref y))
    exact k a _ (.inl rfl) e
  | ext φ => obtain ⟨p, ⟨o, e⟩, st⟩ := x; exact ⟨st _ _ p fun o q => k _ _ (.inl rfl) q, ⟨o, k _ _ (.inl rfl) e⟩, st⟩
theorem HOk.lt (x : HOk P w H h) (e : H a = some o) : a < h.objs.size := (x a o e).lt
theorem HOk.fresh (x : HOk P w H h) (e : h.objs.size ≤ a) : H a = none := by
  cases q : H a with
  | none => rfl
  | some u => exact absurd (Nat.lt_of_lt_of_le (x.lt q) e) (Nat.lt_irrefl _)
theorem HOk.kept (x : HOk P w H h) (k : ∀ b u, h.get? b = some u → h'.get? b = some u) : HOk P w H h' := fun a o e =>
  (x a o e).stay (fun b u _ q => k b u q) (fun _ q => q) fun _ _ q => q
theorem HOk.laid (x : HOk P w H h) (k : ∀ b u, h.get? b = some u → h'.get? b = some u) (hp : h.objs.size ≤ a) (new : ObjOk P w (upd H a o) h' a o) : HOk P w (upd H a o) h' := fun b u e => by
  have hn := x.fresh hp
  by_cases hb : b = a
  · subst hb; rw [upd_same] at e; cases e; exact new
  · rw [upd_ne hb] at e
    exact (x b u e).stay (fun c v _ q => k c v q) (fun c q => by rw [upd_ne (ne_of_none q hn)]; exact q) fun c xs q => by rw [upd_ne (ne_of_none q hn)]; exact q
end
def Rd (H : Hp) (a : Addr) (u : HO) : Prop := H a = some u ∨ ∃ o, H a = some (.frz o u)
theorem Rd.ok {P : Program} {w : World} {H : Hp} {h : Heap} {a : Addr} {u : HO} (r : Rd H a u) (x : HOk P w H h) : ObjOk P w H h a u := by
  rcases r with r | ⟨o, r⟩
  · exact x a u r
  · obtain ⟨_, q⟩ := x a _ r
    exact q
def Mut : Option HO → Prop
  | some (.lst _) => True
  | some (.dK _) => True
  | some (.dT _) => True
  | some (.set _ _) => True
  | some (.ins _ _ _) => True
  | some (.ext _) => True
  | _ => False
section
variable {P : Program} {w : World} {H : Hp} {h h' : Heap} {x e : Addr} {o' : HO}
theorem HOk.write (ok : HOk P w H h) (mu : Mut (H x)) (he : e = x ∨ H e = some (.own x)) (k : ∀ b u, b ≠ e → h.get? b = some u → h'.get? b = some u) (heo : ∃ u, h'.get? e = some u)
    (new : ObjOk P w (upd H x o') h' x o') : HOk P w (upd H x o') h' := fun b u q => by
  have nown : ∀ c y, H c = some (.own y) → c ≠ x := fun c y r z => by subst z; rw [r] at mu; exact mu
  have ntup : ∀ c xs, H c = some (.tup xs) → c ≠ x := fun c xs r z => by subst z; rw [r] at mu; exact mu
  by_cases hb : b = x
  · subst hb; rw [upd_same] at q; cases q; exact new
  · rw [upd_ne hb] at q
    by_cases hbe : b = e
    · have q' : H b = some (.own x) := by
        rcases he with z | z
        · exact absurd (hbe.trans z) hb
        · rw [hbe]; exact z
      rw [q] at q'; cases q'
      obtain ⟨v, hv⟩ := heo
      exact ⟨v, by rw [hbe]; exact hv⟩
    · refine (ok b u q).stay (fun c v hc r => k c v ?_ r) (fun c r => by rw [upd_ne (nown c b r)]; exact r) fun c xs r => by rw [upd_ne (ntup c xs r)]; exact r
      rcases hc with rfl | hc
      · exact hbe
      · rintro rfl
        rcases he with z | z
        · exact nown c b hc z
        · rw [hc] at z; cases z; exact hb rfl
end
structure Un (fs ex : List Addr) (H H' : Hp) (h h' : Heap) : Prop where
  keep : ∀ b o, h.get? b = some o → H b = none → b ∉ fs → b ∉ ex → h'.get? b = some o
  slot : ∀ b o, h.get? b = some o → H b = none → b ∈ fs → b ∉ ex → ∃ sl, h'.get? b = some { o with slots := sl }
  free : ∀ b o, h.get? b = some o → H b = none → b ∉ ex → H' b = none
  there : ∀ b o, h.get? b = some o → b ∉ ex → ∃ o', h'.get? b = some o'
  tups : ∀ b xs, H b = some (.tup xs) → H' b = some (.tup xs)
  frzs : ∀ b o u, H b = some (.frz o u) → H' b = some (.frz o u)
  tbls : ∀ b ps, H b = some (.tbl ps) → ∃ more, H' b = some (.tbl (ps ++ more))
section
variable {fs fs' ex ex' : List Addr} {H H1 H2 : Hp} {h h1 h2 h' : Heap} {a x e : Addr} {o : HO}
theorem Un.any (u : Un fs ex H H1 h h1) {b : Addr} {ob : Obj} (q : h.get? b = some ob) (n : H b = none) (hx : b ∉ ex) : ∃ sl, h1.get? b = some { ob with slots := sl } := by
  by_cases hb : b ∈ fs
  · exact u.slot b ob q n hb hx
  · exact ⟨ob.slots, u.keep b ob q n hb hx⟩
theorem Un.kept (k : ∀ b u, h.get? b = some u → h'.get? b = some u) : Un fs ex H H h h' :=
  ⟨fun b ob q _ _ _ => k b ob q, fun b ob q _ _ _ => ⟨ob.slots, k b ob q⟩, fun _ _ _ n _ => n, fun b ob q _ => ⟨ob, k b ob q⟩, fun _ _ q => q, fun _ _ _ q => q, fun _ ps q => ⟨#[], by rw [q]; simp⟩⟩
theorem Un.refl : Un fs ex H H h h := Un.kept fun _ _ q => q
theorem Un.laid (k : ∀ b u, h.get? b = some u → h'.get? b = some u) (hp : h.objs.size ≤ a) (hn : H a = none) : Un fs ex H (upd H a o) h h' where
  keep := fun b u q _ _ _ => k b u q
  slot := fun b u q _ _ _ => ⟨u.slots, k b u q⟩
  free := fun b u q n _ => by rw [upd_ne (Nat.ne_of_lt (Nat.lt_of_lt_of_le (Heap.lt_size q) hp))]; exact n
  there := fun b u q _ => ⟨u, k b u q⟩
  tups := fun b xs q => by rw [upd_ne (ne_of_none q hn)]; exact q
  frzs := fun b u xs q => by rw [upd_ne (ne_of_none q hn)]; exact q
  tbls := fun b ps q => ⟨#[], by rw [upd_ne (ne_of_none q hn), q]; simp⟩
theorem Un.write (mu : Mut (H x)) (he : e = x ∨ H e = some (.own x)) (k : ∀ b u, b ≠ e → h.get? b = some u → h'.get? b = some u) (heo : ∃ u, h'.get? e = some u) : Un fs ex H (upd H x o) h h' := by
  have hx : ∀ b, H b = none → b ≠ x := fun b n z => by subst z; rw [n] at mu; exact mu
  have hb : ∀ b, H b = none → b ≠ e := fun b n z => by
    subst z
    rcases he with r | r
    · exact hx b n r
    · rw [n] at r; cases r
  have hm : ∀ b u, H b = some u → ¬ Mut (some u) → b ≠ x := fun b u q nm z => by subst z; rw [q] at mu; exact nm mu
  refine ⟨fun b u q n _ _ => k b u (hb b n) q, fun b u q n _ _ => ⟨u.slots, k b u (hb b n) q⟩, fun b u q n _ => by rw [upd_ne (hx b n)]; exact n, fun b u q _ => ?_,
    fun b xs q => by rw [upd_ne (hm b _ q fun z => z)]; exact q, fun b u xs q => by rw [upd_ne (hm b _ q fun z => z)]; exact q, fun b ps q => ⟨#[], by rw [upd_ne (hm b _ q fun z => z), q]; simp⟩⟩
  by_cases hbe : b = e
  · subst hbe; exact heo
  · exact ⟨u, k b u hbe q⟩
end
def trk (h : Heap) (H : Hp) : List Addr := (List.range h.objs.size).filter fun a => (H a).isSome
def hidT (h : Heap) (H : Hp) : Heap := PySem.W.hideAll h (trk h H)
theorem hidT_size (h : Heap) (H : Hp) : (hidT h H).objs.size = h.objs.size := PySem.W.hideAll_size _ _
theorem hidT_get {h : Heap} {H : Hp} {b : Addr} {o : Obj} (e : h.get? b = some o) (n : H b = none) : (hidT h H).get? b = some o :=
  PySem.W.hideAll_get _ e fun hm => by
    have q : (H b).isSome = true := (List.mem_filter.mp hm).2
    rw [n] at q; simp at q
theorem of_hidT {h : Heap} {H : Hp} {b : Addr} {o : Obj} (e : (hidT h H).get? b = some o) : h.get? b = some o ∧ H b = none := by
  have e' : h.get? b = some o := PySem.W.of_hideAll (trk h H) e
  refine ⟨e', ?_⟩
  cases q : H b with
  | none => rfl
  | some x =>
    have hm : b ∈ trk h H := List.mem_filter.mpr ⟨List.mem_range.mpr (Heap.lt_size e'), by simp [q]⟩
    have z : (hidT h H).get? b = none := PySem.W.hideAll_none (trk h H) hm
    rw [z] at e; cases e
def allNews (g h : Heap) (L : Addr) : List (Addr × Obj) := (List.range h.objs.size).filterMap fun a => if a = L ∨ (g.get? a).isSome = true then none else (h.get? a).map fun o => (a, o)
def rest (g h : Heap) (L d : Addr) : List (Addr × Obj) := (allNews g h L).filter fun p => decide (p.1 ≠ d)
end L2
namespace L2
open PySem PySem.Spec PyProof.Rows
structure Mod (K : PySem.W.Frag) (mg : Str → Option Value) (base : Heap) : Prop where
  kin : K.In base
  glob : base.Ns mainGlobals mg
  blt : ∃ mb, base.Ns builtinsNs mb ∧ ∀ x : Str, x ≠ "__name__" → mb x = bootBuiltins x
  nolimit : base.NoLimit
/-- the context: a def's body (or a comprehension's block) running. base: fixed through the whole law; s₀, H₀: the entry; outer: the frames whose slots others may change (a def's callers); stack: all frames that run;
   ex: iterators that were made ahead of the entry and are walked here (a comprehension's); fn: the names whose cells were made at the entry (a def: all; a comprehension's block: its own); calm: not within an except suite; pn: pins that every state bears; xe: what is wanted of an exception that leaves the code -/
structure Cx where
  prog : Program
  w : World
  K : PySem.W.Frag
  mg : Str → Option Value
  base : Heap
  A : Around
  N : List Str
  s₀ : Shared
  H₀ : Hp
  env : Env
  outer : List Env
  stack : List Env
  ex : List Addr
  fn : Str → Bool
  calm : Bool
  pn : List (Addr × Obj)
  xe : Value → Shared → Prop
def frs (l : List Env) : List Addr := l.filterMap (·.frame)
abbrev Cx.fs (X : Cx) : List Addr := frs X.outer
def Vis (sc : Scope) (x : Str) : Prop := sc.names.lookup x = some .local ∨ sc.names.lookup x = some .cell ∨ sc.names.lookup x = some .free
def Loc (sc : Scope) (x : Str) : Prop := sc.names.lookup x = some .local ∨ sc.names.lookup x = some .cell
def Look (env : Env) (h : Heap) (m : Str → Option Value) (x : Str) (u : Value) : Prop :=
  (env.kindOf x = some .local ∧ m x = some u) ∨ ((env.kindOf x = some .cell ∨ env.kindOf x = some .free) ∧ ∃ c, env.cells.lookup x = some c ∧ h.IsCell c (some u))
structure Cx.Ok (X : Cx) : Prop where
  mod : Mod X.K X.mg X.base
  kind : X.env.scope.kind = .function
  glob : X.env.globals = mainGlobals
  blt : X.env.builtins = builtinsNs
  above : X.s₀.heap.objs.size ≤ X.env.locals
  inj : ∀ x y c, X.env.cells.lookup x = some c → X.env.cells.lookup y = some c → x = y
  has : ∀ x, (X.env.kindOf x = some .cell ∨ X.env.kindOf x = some .free) → ∃ c, X.env.cells.lookup x = some c
  cab : ∀ x c, X.fn x = true → X.env.cells.lookup x = some c → X.s₀.heap.objs.size ≤ c
  hd : X.calm = true → X.A.handled = none
  frames : X.A.frames = some X.stack
  stk : X.stack = X.outer ∨ (X.stack = X.env :: X.outer ∧ X.env.frame = some X.env.locals)
  exf : ∀ b ∈ X.ex, b ≠ X.env.locals ∧ ∀ x c, X.env.cells.lookup x = some c → c ≠ b
  bs : ∀ b o, X.base.get? b = some o → X.s₀.heap.get? b = some o ∧ X.H₀ b = none
  bsz : X.base.objs.size ≤ X.s₀.heap.objs.size
  noex : ∀ b o, X.base.get? b = some o → b ∉ X.ex
  exfs : ∀ b ∈ X.ex, b ∉ X.fs
  funs : X.s₀.heap.FunFrames X.base X.outer
  frf : ∀ b ∈ X.fs, X.H₀ b = none
structure Inv (X : Cx) (pins : List (Addr × Obj)) (σ : List (Option V)) (H : Hp) (s : Shared) : Prop where
  ok : X.Ok
  os : s.os = X.s₀.os
  bare : AllBare s.gens
  base : Un X.fs X.ex X.H₀ H X.s₀.heap s.heap
  loc : ∃ m, s.heap.Ns X.env.locals m ∧ ∀ (i : Nat) (x : Str) (v : V), X.N[i]? = some x → σ[i]? = some (some v) → Vis X.env.scope x → ∃ u, RelV v u ∧ Look X.env s.heap m x u
  cell : ∀ x c, X.env.cells.lookup x = some c → ∃ v, s.heap.IsCell c v
  free : H X.env.locals = none
  freeC : ∀ x c, X.env.cells.lookup x = some c → H c = none
  pin : ∀ p ∈ X.pn ++ pins, s.heap.get? p.1 = some p.2 ∧ H p.1 = none ∧ p.1 ≠ X.env.locals ∧ p.1 ∉ X.fs ∧ ∀ v, p.2.data ≠ .cell v
  hok : HOk X.prog X.w H s.heap
  len : σ.length = X.N.length
section
variable {X : Cx} {pins : List (Addr × Obj)} {σ : List (Option V)} {H H' : Hp} {s : Shared} {h' : Heap}
theorem Cx.Ok.nofr (ok : X.Ok) {b : Addr} {o : Obj} (e : X.base.get? b = some o) : b ∉ X.fs := fun hb => by
  have := (ok.funs.mem hb).1
  rw [e] at this; cases this
theorem Inv.bs (I : Inv X pins σ H s) : ∀ b o, X.base.get? b = some o → s.heap.get? b = some o ∧ H b = none := fun b o e =>
  ⟨I.base.keep b o (I.ok.bs b o e).1 (I.ok.bs b o e).2 (I.ok.nofr e) (I.ok.noex b o e), I.base.free b o (I.ok.bs b o e).1 (I.ok.bs b o e).2 (I.ok.noex b o e)⟩
theorem Inv.bk (I : Inv X pins σ H s) : ∀ b o, X.base.get? b = some o → s.heap.get? b = some o := fun b o e => (I.bs b o e).1
theorem Inv.mod (I : Inv X pins σ H s) : Mod X.K X.mg X.base := I.ok.mod
theorem Inv.kIn (I : Inv X pins σ H s) : X.K.In s.heap := I.ok.mod.kin.keeps I.bk
theorem Inv.nolimit (I : Inv X pins σ H s) : s.heap.NoLimit := I.ok.mod.nolimit.keeps I.bk
theorem Inv.lt (I : Inv X pins σ H s) : X.env.locals < s.heap.objs.size := let ⟨_, hn, _⟩ := I.loc; hn.lt
theorem Inv.sz (I : Inv X pins σ H s) : X.s₀.heap.objs.size ≤ s.heap.objs.size := Nat.le_trans I.ok.above (Nat.le_of_lt I.lt)
theorem Inv.nofs (I : Inv X pins σ H s) {a : Addr} (h : s.heap.objs.size ≤ a) : a ∉ X.fs := fun hb => by
  obtain ⟨_, o, ho, _⟩ := I.ok.funs.mem hb
  exact absurd (Nat.lt_of_lt_of_le (Heap.lt_size ho) (Nat.le_trans I.sz h)) (Nat.lt_irrefl _)
theorem Inv.cne (I : Inv X pins σ H s) : ∀ x c, X.env.cells.lookup x = some c → c ≠ X.env.locals := fun x c e z => by
  obtain ⟨v, o, ho, hd⟩ := I.cell x c e
  obtain ⟨m, ⟨o', es, ep, ho', hd', _⟩, _⟩ := I.loc
  rw [z, ho'] at ho; cases ho; rw [hd'] at hd; cases hd
theorem Inv.funs (I : Inv X pins σ H s) : s.heap.FunFrames X.base X.outer := by
  have all : ∀ (l : List Env), (∀ b ∈ frs l, b ∈ X.fs) → X.s₀.heap.FunFrames X.base l → s.heap.FunFrames X.base l := by
    intro l
    induction l with
    | nil => intro _ _; trivial
    | cons env r ih =>
      intro hs hl
      obtain ⟨hk, ⟨L, o, hf, hn, ho, hd⟩, hr⟩ := hl
      have hL : L ∈ X.fs := hs L (by unfold frs; rw [List.filterMap_cons, hf]; exact List.mem_cons_self)
      obtain ⟨sl, e⟩ := I.base.slot L o ho (I.ok.frf L hL) hL fun z => I.ok.exfs L z hL
      exact ⟨hk, ⟨L, _, hf, hn, e, hd⟩, ih (fun b hb => hs b (by unfold frs; rw [List.filterMap_cons, hf]; exact List.mem_cons_of_mem _ hb)) hr⟩
  exact all X.outer (fun _ hb => hb) I.ok.funs
theorem Inv.stack (I : Inv X pins σ H s) : s.heap.FunFrames X.base X.stack := by
  rcases I.ok.stk with e | ⟨e, hf⟩
  · rw [e]; exact I.funs
  · rw [e]
    obtain ⟨m, hn, _⟩ := I.loc
    refine .cons (by rw [I.ok.kind]; decide) hf hn ?_ I.funs
    exact Heap.get?_none_of_le (Nat.le_trans I.ok.bsz I.ok.above)
theorem Inv.stkSub (I : Inv X pins σ H s) : ∀ b ∈ frs X.stack, b ∈ X.env.locals :: X.fs := fun b hb => by
  rcases I.ok.stk with e | ⟨e, hf⟩
  · rw [e] at hb; exact List.mem_cons_of_mem _ hb
  · rw [e] at hb
    unfold frs at hb
    rw [List.filterMap_cons, hf] at hb
    exact hb
theorem Inv.stkFree (I : Inv X pins σ H s) : ∀ b ∈ frs X.stack, H b = none := fun b hb => by
  rcases List.mem_cons.mp (I.stkSub b hb) with e | hb
  · rw [e]; exact I.free
  · obtain ⟨_, o, ho, _⟩ := I.ok.funs.mem hb
    exact I.base.free b o ho (I.ok.frf b hb) fun z => I.ok.exfs b z hb
theorem Inv.step {g' : Array GenState} {t' : Nat} {d' : Drawn} {ch : List Addr} (I : Inv X pins σ H s)
    (hch : ∀ b ∈ ch, (b ∈ X.ex ∨ X.s₀.heap.objs.size ≤ b) ∧ b ≠ X.env.locals ∧ (∀ x c, X.env.cells.lookup x = some c → c ≠ b) ∧ ∀ p ∈ X.pn ++ pins, p.1 ≠ b)
    (keep : ∀ b o, b ≠ X.env.locals → b ∉ X.fs → b ∉ ch → s.heap.get? b = some o → H b = none → h'.get? b = some o)
    (slot : ∀ b o, b ≠ X.env.locals → b ∈ X.fs → b ∉ ch → s.heap.get? b = some o → H b = none → ∃ sl, h'.get? b = some { o with slots := sl }) (free : ∀ b o, b ∉ ch → s.heap.get? b = some o → H b = none → H' b = none)
    (there : ∀ b o, b ∉ ch → s.heap.get? b = some o → ∃ o', h'.get? b = some o')
    (tups : ∀ b xs, H b = some (.tup xs) → H' b = some (.tup xs)) (frzs : ∀ b o u, H b = some (.frz o u) → H' b = some (.frz o u)) (tbls : ∀ b ps, H b = some (.tbl ps) → ∃ more, H' b = some (.tbl (ps ++ more)))
    (ns : ∀ m, s.heap.Ns X.env.locals m → h'.Ns X.env.locals m) (hok : HOk X.prog X.w H' h') (hg : AllBare g') :
    Inv X pins σ H' { s with heap := h', gens := g', drawn := d', toks := t' } := by
  have neL : ∀ b o, X.s₀.heap.get? b = some o → b ≠ X.env.locals := fun b o e => Nat.ne_of_lt (Nat.lt_of_lt_of_le (Heap.lt_size e) I.ok.above)
  have neC : ∀ b o, X.s₀.heap.get? b = some o → b ∉ X.ex → b ∉ ch := fun b o e hx hb => by
    rcases (hch b hb).1 with z | z
    · exact hx z
    · exact absurd (Nat.lt_of_lt_of_le (Heap.lt_size e) z) (Nat.lt_irrefl _)
  have cellK : ∀ x c, X.env.cells.lookup x = some c → ∀ v, s.heap.IsCell c v → h'.IsCell c v := fun x c e v ⟨o, ho, hd⟩ => by
    have nch : c ∉ ch := fun z => (hch c z).2.2.1 x c e rfl
    by_cases hc : c ∈ X.fs
    · obtain ⟨sl, q⟩ := slot c o (I.cne x c e) hc nch ho (I.freeC x c e)
      exact ⟨_, q, hd⟩
    · exact ⟨o, keep c o (I.cne x c e) hc nch ho (I.freeC x c e), hd⟩
  refine ⟨I.ok, I.os, hg, ⟨fun b o e n hb hx => ?_, fun b o e n hb hx => ?_, fun b o e n hx => ?_, fun b o e hx => ?_, fun b xs e => tups b xs (I.base.tups b xs e), fun b o xs e => frzs b o xs (I.base.frzs b o xs e), fun b ps e => ?_⟩, ?_, fun x c e => ?_, ?_, fun x c e => ?_, fun p hp => ?_, hok, I.len⟩
  · exact keep b o (neL b o e) hb (neC b o e hx) (I.base.keep b o e n hb hx) (I.base.free b o e n hx)
  · obtain ⟨sl, e1⟩ := I.base.slot b o e n hb hx
    obtain ⟨sl', e2⟩ := slot b _ (neL b o e) hb (neC b o e hx) e1 (I.base.free b o e n hx)
    exact ⟨sl', e2⟩
  · obtain ⟨o', e1⟩ := I.base.there b o e hx
    exact free b o' (neC b o e hx) e1 (I.base.free b o e n hx)
  · obtain ⟨o', e1⟩ := I.base.there b o e hx
    exact there b o' (neC b o e hx) e1
  · obtain ⟨m1, e1⟩ := I.base.tbls b ps e
    obtain ⟨m2, e2⟩ := tbls b _ e1
    exact ⟨m1 ++ m2, by rw [e2, Array.append_assoc]⟩
  · obtain ⟨m, hn, hl⟩ := I.loc
    refine ⟨m, ns m hn, fun i x v e1 e2 e3 => ?_⟩
    obtain ⟨u, r, l⟩ := hl i x v e1 e2 e3
    refine ⟨u, r, ?_⟩
    rcases l with l | ⟨k, c, e, z⟩
    · exact .inl l
    · exact .inr ⟨k, c, e, cellK x c e _ z⟩
  · obtain ⟨v, z⟩ := I.cell x c e
    exact ⟨v, cellK x c e v z⟩
  · obtain ⟨m, ⟨o, _, _, ho, _⟩, _⟩ := I.loc
    exact free _ o (fun z => (hch _ z).2.1 rfl) ho I.free
  · obtain ⟨v, o, ho, hd⟩ := I.cell x c e
    exact free c o (fun z => (hch c z).2.2.1 x c e rfl) ho (I.freeC x c e)
  · obtain ⟨e, n, ne, nf, d⟩ := I.pin p hp
    have nch : p.1 ∉ ch := fun z => (hch p.1 z).2.2.2 p hp rfl
    exact ⟨keep p.1 p.2 ne nf nch e n, free p.1 p.2 nch e n, ne, nf, d⟩
theorem Inv.un {t' : Nat} (I : Inv X pins σ H s) (u : Un X.fs [] H H' s.heap h') (hok : HOk X.prog X.w H' h') : Inv X pins σ H' { s with heap := h', toks := t' } := by
  obtain ⟨m, ⟨o, es, ep, ho, r⟩, _⟩ := id I.loc
  obtain ⟨sl, hL⟩ := u.any ho I.free (by simp)
  exact I.step (g' := s.gens) (d' := s.drawn) (ch := []) (fun _ z => nomatch z) (fun b o _ hb _ e n => u.keep b o e n hb (by simp)) (fun b o _ hb _ e n => u.slot b o e n hb (by simp)) (fun b o _ e n => u.free b o e n (by simp)) (fun b o _ e => u.there b o e (by simp)) u.tups u.frzs u.tbls (fun m' hm => by
    obtain ⟨o', es', ep', ho', r'⟩ := hm
    rw [ho] at ho'; cases ho'
    exact ⟨_, es', ep', hL, r'⟩) hok I.bare
theorem Inv.call {g' : Array GenState} {t' : Nat} {d' : Drawn} {ch : List Addr} (I : Inv X pins σ H s) (u : Un (frs X.stack) ch H H' s.heap h') (hok : HOk X.prog X.w H' h') (hg : AllBare g')
    (hch : ∀ b ∈ ch, (b ∈ X.ex ∨ X.s₀.heap.objs.size ≤ b) ∧ b ≠ X.env.locals ∧ (∀ x c, X.env.cells.lookup x = some c → c ≠ b) ∧ ∀ p ∈ X.pn ++ pins, p.1 ≠ b) :
    Inv X pins σ H' { s with heap := h', gens := g', drawn := d', toks := t' } := by
  obtain ⟨m, ⟨o, es, ep, ho, r⟩, _⟩ := id I.loc
  obtain ⟨sl, hL⟩ := u.any ho I.free fun z => (hch _ z).2.1 rfl
  exact I.step (ch := ch) hch (fun b o hL hb hc e n => u.keep b o e n (fun z => (List.mem_cons.mp (I.stkSub b z)).elim hL hb) hc) (fun b o _ _ hc e n => u.any e n hc) (fun b o hc e n => u.free b o e n hc) (fun b o hc e => u.there b o e hc) u.tups u.frzs u.tbls (fun m' hm => by
    obtain ⟨o', es', ep', ho', r'⟩ := hm
    rw [ho] at ho'; cases ho'
    exact ⟨_, es', ep', hL, r'⟩) hok hg
theorem Inv.turned {t' : Nat} {it : Addr} (I : Inv X pins σ H s) (k : ∀ b o, b ≠ it → s.heap.get? b = some o → h'.get? b = some o) (hn : H it = none) (hL : it ≠ X.env.locals)
    (h1 : it ∈ X.ex ∨ X.s₀.heap.objs.size ≤ it) (h2 : ∀ x c, X.env.cells.lookup x = some c → c ≠ it) (h3 : ∀ p ∈ X.pn ++ pins, p.1 ≠ it) : Inv X pins σ H { s with heap := h', toks := t' } := by
  have nit : ∀ b u, H b = some u → b ≠ it := fun b u e z => by rw [z, hn] at e; cases e
  refine I.step (g' := s.gens) (d' := s.drawn) (ch := [it]) (fun b hb => ?_) (fun b o _ _ hc e _ => k b o (fun z => hc (by simp [z])) e) (fun b o _ _ hc e _ => ⟨o.slots, k b o (fun z => hc (by simp [z])) e⟩) (fun _ _ _ _ n => n)
    (fun b o hc e => ⟨o, k b o (fun z => hc (by simp [z])) e⟩) (fun _ _ e => e) (fun _ _ _ e => e) (fun b ps e => ⟨#[], by rw [e]; simp⟩) (fun m hm => ?_) (fun b u e => ?_) I.bare
  · have e : b = it := by simpa using hb
    subst e
    exact ⟨h1, hL, h2, h3⟩
  · obtain ⟨o, es, ep, ho, r⟩ := hm
    exact ⟨o, es, ep, k _ o (Ne.symm hL) ho, r⟩
  · refine (I.hok b u e).stay (fun c v hc q => k c v ?_ q) (fun _ q => q) fun _ _ q => q
    rcases hc with z | z
    · rw [z]; exact nit b u e
    · exact nit c _ z
theorem Inv.tok (I : Inv X pins σ H s) (t : Nat) : Inv X pins σ H { s with toks := t } := I.un (h' := s.heap) (t' := t) Un.refl I.hok
theorem Inv.kept {t' : Nat} (I : Inv X pins σ H s) (k : ∀ b u, s.heap.get? b = some u → h'.get? b = some u) : Inv X pins σ H { s with heap := h', toks := t' } := I.un (Un.kept k) (I.hok.kept k)
theorem Inv.laid {a : Addr} {o : HO} {t' : Nat} (I : Inv X pins σ H s) (k : ∀ b u, s.heap.get? b = some u → h'.get? b = some u) (hp : s.heap.objs.size ≤ a) (new : ObjOk X.prog X.w (upd H a o) h' a o) :
    Inv X pins σ (upd H a o) { s with heap := h', toks := t' } := I.un (Un.laid k hp (I.hok.fresh hp)) (I.hok.laid k hp new)
theorem Inv.write {x e : Addr} {o : HO} {t' : Nat} (I : Inv X pins σ H s) (mu : Mut (H x)) (he : e = x ∨ H e = some (.own x)) (k : ∀ b u, b ≠ e → s.heap.get? b = some u → h'.get? b = some u) (heo : ∃ u, h'.get? e = some u)
    (new : ObjOk X.prog X.w (upd H x o) h' x o) : Inv X pins σ (upd H x o) { s with heap := h', toks := t' } := I.un (Un.write mu he k heo) (I.hok.write mu he k heo new)
theorem Inv.weak {σ' : List (Option V)} (I : Inv X pins σ H s) (hl : σ'.length = σ.length) (w : ∀ (i : Nat) v, σ'[i]? = some (some v) → σ[i]? = some (some v)) : Inv X pins σ' H s :=
  ⟨I.ok, I.os, I.bare, I.base, let ⟨m, hn, hl'⟩ := I.loc; ⟨m, hn, fun i x v e1 e2 e3 => hl' i x v e1 (w i v e2) e3⟩, I.cell, I.free, I.freeC, I.pin, I.hok, hl.trans I.len⟩
theorem Inv.pins_of {pins' : List (Addr × Obj)} (I : Inv X pins σ H s) (h : ∀ p ∈ pins', s.heap.get? p.1 = some p.2 ∧ H p.1 = none ∧ p.1 ≠ X.env.locals ∧ p.1 ∉ X.fs ∧ ∀ v, p.2.data ≠ .cell v) : Inv X pins' σ H s :=
  ⟨I.ok, I.os, I.bare, I.base, I.loc, I.cell, I.free, I.freeC, fun p hp => (List.mem_append.mp hp).elim (fun z => I.pin p (List.mem_append_left _ z)) (h p), I.hok, I.len⟩
theorem nodup_ix {N : List Str} (hN : N.Nodup) {i j : Nat} {x : Str} (a : N[i]? = some x) (b : N[j]? = some x) : i = j := by
  obtain ⟨h1, e1⟩ := List.getElem?_eq_some_iff.mp a
  obtain ⟨h2, e2⟩ := List.getElem?_eq_some_iff.mp b
  exact (List.getElem_inj hN).mp (e1.trans e2.symm)
theorem store_ok2 {M : Model} {A : Around} {E : Value → Shared → Prop} {i : Nat} {x : Str} {v : V} {u : Value} {Q : Unit → Shared → Prop} (I : Inv X pins σ H s) (hN : X.N.Nodup) (hi : X.N[i]? = some x) (hx : Loc X.env.scope x) (r : RelV v u)
    (h : ∀ s', Inv X pins (σ.set i (some v)) H s' → (∃ a, Heap.SameBut a s.heap s'.heap ∧ (a = X.env.locals ∨ X.env.cells.lookup x = some a)) → Q () s') (hf : X.fn x = true ∨ X.env.scope.names.lookup x = some .local := by first | exact .inl rfl | exact .inr rfl | assumption) : wpAny M A (storeName X.env x u) Q E s := by
  obtain ⟨m, hn, hl⟩ := id I.loc
  have hcls : (X.env.scope.kind == .class || (X.env.scope.kind == .module && X.env.locals != X.env.globals)) = false := by rw [I.ok.kind]; rfl
  have hiσ : i < σ.length := by rw [I.len]; exact (List.getElem?_eq_some_iff.mp hi).1
  have cne := I.cne
  have tracked : ∀ {a : Addr} {h' : Heap}, (∃ o, s.heap.get? a = some o ∧ H a = none) → Heap.SameBut a s.heap h' → HOk X.prog X.w H h' := fun {a h'} ha hs b ob e => by
    obtain ⟨_, _, hfree⟩ := ha
    refine (I.hok b ob e).stay (fun c w' hc q => (hs.2 c ?_).trans q) (fun _ q => q) fun _ _ q => q
    rintro rfl
    rcases hc with rfl | hc
    · rw [hfree] at e; cases e
    · rw [hfree] at hc; cases hc
  rcases hx with hk | hk
  · refine wpAny_storeName_local hk hn (fun h' hn' hs => ?_) hcls
    obtain ⟨oL, _, _, hoL, _⟩ := id hn
    refine h _ ⟨I.ok, I.os, I.bare, ⟨fun b o e n hb hx => ?_, fun b o e n hb hx => ?_, I.base.free, fun b o e hx => ?_, I.base.tups, I.base.frzs, I.base.tbls⟩, ⟨_, hn', fun j y v' e1 e2 e3 => ?_⟩, fun y c e => ?_, I.free, I.freeC, fun p hp => ?_, tracked ⟨oL, hoL, I.free⟩ hs, by simpa using I.len⟩ ⟨_, hs, .inl rfl⟩
    · exact (hs.2 b (Nat.ne_of_lt (Nat.lt_of_lt_of_le (Heap.lt_size e) I.ok.above))).trans (I.base.keep b o e n hb hx)
    · obtain ⟨sl, e1⟩ := I.base.slot b o e n hb hx
      exact ⟨sl, (hs.2 b (Nat.ne_of_lt (Nat.lt_of_lt_of_le (Heap.lt_size e) I.ok.above))).trans e1⟩
    · obtain ⟨o', e1⟩ := I.base.there b o e hx
      exact ⟨o', (hs.2 b (Nat.ne_of_lt (Nat.lt_of_lt_of_le (Heap.lt_size e) I.ok.above))).trans e1⟩
    · by_cases hj : j = i
      · subst hj
        rw [hi] at e1; cases e1
        rw [List.getElem?_set_self hiσ] at e2
        cases e2
        exact ⟨u, r, .inl ⟨hk, by simp⟩⟩
      · rw [List.getElem?_set_ne (Ne.symm hj)] at e2
        obtain ⟨u', r', q⟩ := hl j y v' e1 e2 e3
        refine ⟨u', r', ?_⟩
        rcases q with ⟨k, e⟩ | ⟨k, c, e, z⟩
        · refine .inl ⟨k, ?_⟩
          have : y ≠ x := fun e => hj (nodup_ix hN e1 (e ▸ hi))
          simp [this, e]
        · exact .inr ⟨k, c, e, z.sameBut hs (cne y c e)⟩
    · obtain ⟨w', z⟩ := I.cell y c e
      exact ⟨w', z.sameBut hs (cne y c e)⟩
    · obtain ⟨e, n, ne, nf, d⟩ := I.pin p hp
      exact ⟨(hs.2 p.1 ne).trans e, n, ne, nf, d⟩
  · have hfn : X.fn x = true := by
      rcases hf with z | z
      · exact z
      · rw [z] at hk; cases hk
    obtain ⟨c, hc⟩ := I.ok.has x (.inl hk)
    obtain ⟨w', z⟩ := I.cell x c hc
    refine wpAny_storeName_cell I.ok.kind hk hc z (fun h' hc' hs => ?_)
    obtain ⟨oc, hoc, hocd⟩ := id z
    refine h { s with heap := h' } ⟨I.ok, I.os, I.bare, ⟨fun b o e n hb hx => ?_, fun b o e n hb hx => ?_, I.base.free, fun b o e hx => ?_, I.base.tups, I.base.frzs, I.base.tbls⟩, ⟨m, hn.sameBut hs (Ne.symm (cne x c hc)), fun j y v' e1 e2 e3 => ?_⟩, fun y c' e => ?_, I.free, I.freeC, fun p hp => ?_, tracked ⟨oc, hoc, I.freeC x c hc⟩ hs, by simpa using I.len⟩ ⟨c, hs, .inr hc⟩
    · exact (hs.2 b (Nat.ne_of_lt (Nat.lt_of_lt_of_le (Heap.lt_size e) (I.ok.cab x c hfn hc)))).trans (I.base.keep b o e n hb hx)
    · obtain ⟨sl, e1⟩ := I.base.slot b o e n hb hx
      exact ⟨sl, (hs.2 b (Nat.ne_of_lt (Nat.lt_of_lt_of_le (Heap.lt_size e) (I.ok.cab x c hfn hc)))).trans e1⟩
    · obtain ⟨o', e1⟩ := I.base.there b o e hx
      exact ⟨o', (hs.2 b (Nat.ne_of_lt (Nat.lt_of_lt_of_le (Heap.lt_size e) (I.ok.cab x c hfn hc)))).trans e1⟩
    · by_cases hj : j = i
      · subst hj
        rw [hi] at e1; cases e1
        rw [List.getElem?_set_self hiσ] at e2
        cases e2
        exact ⟨u, r, .inr ⟨.inl hk, c, hc, hc'⟩⟩
      · rw [List.getElem?_set_ne (Ne.symm hj)] at e2
        obtain ⟨u', r', q⟩ := hl j y v' e1 e2 e3
        refine ⟨u', r', ?_⟩
        rcases q with q | ⟨k, c', e, z'⟩
        · exact .inl q
        · refine .inr ⟨k, c', e, z'.sameBut hs ?_⟩
          rintro rfl
          exact hj (nodup_ix hN e1 (I.ok.inj _ _ _ e hc ▸ hi))
    · by_cases hcc : c' = c
      · subst hcc; exact ⟨_, hc'⟩
      · obtain ⟨w2, z2⟩ := I.cell y c' e
        exact ⟨w2, z2.sameBut hs hcc⟩
    · obtain ⟨e, n, ne, nf, d⟩ := I.pin p hp
      refine ⟨(hs.2 p.1 ?_).trans e, n, ne, nf, d⟩
      intro q
      rw [q, hoc] at e
      have q' : oc = p.2 := Option.some.inj e
      exact d w' (by rw [← q']; exact hocd)
theorem store_ok {M : Model} {A : Around} {E : Value → Shared → Prop} {i : Nat} {x : Str} {v : V} {u : Value} {Q : Unit → Shared → Prop} (I : Inv X pins σ H s) (hN : X.N.Nodup) (hi : X.N[i]? = some x) (hx : Loc X.env.scope x) (r : RelV v u)
    (h : ∀ s', Inv X pins (σ.set i (some v)) H s' → Q () s') (hf : X.fn x = true ∨ X.env.scope.names.lookup x = some .local := by first | exact .inl rfl | exact .inr rfl | assumption) : wpAny M A (storeName X.env x u) Q E s :=
  store_ok2 I hN hi hx r (fun s' I' _ => h s' I') hf
theorem Inv.call' {s' : Shared} {ch : List Addr} (I : Inv X pins σ H s) (ho : s'.os = s.os) (u : Un (frs X.stack) ch H H' s.heap s'.heap) (hok : HOk X.prog X.w H' s'.heap) (hg : AllBare s'.gens)
    (hch : ∀ b ∈ ch, (b ∈ X.ex ∨ X.s₀.heap.objs.size ≤ b) ∧ b ≠ X.env.locals ∧ (∀ x c, X.env.cells.lookup x = some c → c ≠ b) ∧ ∀ p ∈ X.pn ++ pins, p.1 ≠ b) : Inv X pins σ H' s' := by
  obtain ⟨h', g', d', t', o'⟩ := s'
  have e : o' = s.os := ho
  subst e
  exact I.call (g' := g') (t' := t') (d' := d') u hok hg hch
end
abbrev XK := Value → Option Addr → Hp → Prop
abbrev St := List (Option V)
abbrev VK := V → Hp → Prop
abbrev TE := St → Hp → VK → Prop
abbrev TT := St → Hp → (Bool → Hp → Prop) → Prop
abbrev TA := St → Hp → (List V → Hp → Prop) → Prop
structure Ends where
  nx : St → Hp → Prop
  rt : VK
  bk : St → Hp → Prop := fun _ _ => False
  ct : St → Hp → Prop := fun _ _ => False
abbrev TS := Ends → St → Hp → Prop
def EP (X : Cx) (pins : List (Addr × Obj)) (σ : St) (Q : VK) (u : Value) (s' : Shared) : Prop := ∃ v H', Inv X pins σ H' s' ∧ RelV v u ∧ Q v H'
def TP (X : Cx) (pins : List (Addr × Obj)) (σ : St) (Q : Bool → Hp → Prop) (b : Bool) (s' : Shared) : Prop := ∃ H', Inv X pins σ H' s' ∧ Q b H'
def AP (X : Cx) (pins : List (Addr × Obj)) (σ : St) (Q : List V → Hp → Prop) (us : List Value) (s' : Shared) : Prop := ∃ vs H', Inv X pins σ H' s' ∧ Vals vs us ∧ Q vs H'
def SP (X : Cx) (pins : List (Addr × Obj)) (D : Ends) (f : Flow) (s' : Shared) : Prop :=
  match f with
  | .next => ∃ σ' H', Inv X pins σ' H' s' ∧ D.nx σ' H'
  | .brk => ∃ σ' H', Inv X pins σ' H' s' ∧ D.bk σ' H'
  | .cont => ∃ σ' H', Inv X pins σ' H' s' ∧ D.ct σ' H'
  | .ret u => ∃ v σ' H', Inv X pins σ' H' s' ∧ RelV v u ∧ D.rt v H'
def PE (X : Cx) (e : Expr) (t : TE) : Prop :=
  ∀ (pins : List (Addr × Obj)) (s : Shared) (σ : St) (H : Hp) (Q : VK), Inv X pins σ H s → t σ H Q → wpAny (model X.prog X.w) X.A (eval e X.env) (EP X pins σ Q) X.xe s
def PT (X : Cx) (e : Expr) (t : TT) : Prop :=
  ∀ (pins : List (Addr × Obj)) (s : Shared) (σ : St) (H : Hp) (Q : Bool → Hp → Prop), Inv X pins σ H s → t σ H Q → wpAny (model X.prog X.w) X.A (isTrue e X.env (eval e X.env)) (TP X pins σ Q) X.xe s
def PW (X : Cx) (e : Expr) (t : TT) : Prop :=
  ∀ (whole : Sem Value) (pins : List (Addr × Obj)) (s : Shared) (σ : St) (H : Hp) (Q : Bool → Hp → Prop), Inv X pins σ H s → t σ H Q → wpAny (model X.prog X.w) X.A (isTrue e X.env whole) (TP X pins σ Q) X.xe s
theorem PW.pt {X : Cx} {e : Expr} {t : TT} (h : PW X e t) : PT X e t := h _
def PA (X : Cx) (es : List Expr) (t : TA) : Prop :=
  ∀ (pos : Pos) (pins : List (Addr × Obj)) (s : Shared) (σ : St) (H : Hp) (Q : List V → Hp → Prop), Inv X pins σ H s → t σ H Q → wpAny (model X.prog X.w) X.A (spliced (backTo pos (starEach es X.env))) (AP X pins σ Q) X.xe s
def PS (X : Cx) (st : Stmt) (t : TS) : Prop :=
  ∀ (pins : List (Addr × Obj)) (s : Shared) (σ : St) (H : Hp) (D : Ends), Inv X pins σ H s → t D σ H → wpAny (model X.prog X.w) X.A (exec st X.env) (SP X pins D) X.xe s
def PSs (X : Cx) (st : List Stmt) (t : TS) : Prop :=
  ∀ (pins : List (Addr × Obj)) (s : Shared) (σ : St) (H : Hp) (D : Ends), Inv X pins σ H s → t D σ H → wpAny (model X.prog X.w) X.A (execs st X.env) (SP X pins D) X.xe s
theorem thn {α : Type} {t : Sem α} {Q Q' : α → Shared → Prop} {M : Model} {A : Around} {E : Value → Shared → Prop} {s : Shared} (h : wpAny M A t Q E s) (hQ : ∀ a s, Q a s → Q' a s) : wpAny M A t Q' E s := wpAny_mono h hQ fun _ _ x => x
end L2
namespace L2
open PySem PySem.Spec PyProof.Rows
section
variable {X : Cx}
def tVar (i : Nat) : TE := fun σ H Q => ∃ v, σ[i]? = some (some v) ∧ Q v H
def tC (v : V) : TE := fun _ H Q => Q v H
theorem pe_var {i : Nat} {x : Str} {pos : Pos} (hN : X.N[i]? = some x) (hv : Vis X.env.scope x) (hd : (x == ("__debug__" : Str)) = false := by decide) (hcd : (x == ("__classdict__" : Str)) = false := by decide) : PE X (.Name x pos) (tVar i) := by
  intro pins s σ H Q I h
  obtain ⟨v, e, h⟩ := h
  obtain ⟨m, hn, hl⟩ := I.loc
  obtain ⟨u, r, l⟩ := hl i x v hN e hv
  have fin : EP X pins σ Q u s := ⟨v, H, I, r, h⟩
  rcases l with ⟨hk, hm⟩ | ⟨hk, c, hc, hcell⟩
  · exact wpAny_Name (wpAny_loadName_local I.ok.kind hk hn hm fin) hd
  · rcases hk with hk | hk
    · exact wpAny_Name (wpAny_loadName_cell I.ok.kind hk hc hcell fin) hd
    · exact wpAny_Name (wpAny_loadName_free I.ok.kind hk hc hcell fin hcd) hd
theorem pe_int {i j pos} : PE X (.Constant (.int i) j pos) (tC (.int i)) := fun _ _ _ H _ I h => wpAny_Constant_int ⟨.int i, H, I.tok _, ⟨_, rfl⟩, h⟩
theorem pe_bl {b j pos} : PE X (.Constant (.bool b) j pos) (tC (.bl b)) := fun _ _ _ H _ I h => Constant_bool ⟨.bl b, H, I, rfl, h⟩
theorem pe_non {j pos} : PE X (.Constant .none j pos) (tC .non) := fun _ _ _ H _ I h => Constant_none ⟨.non, H, I, rfl, h⟩
theorem pe_str {x j pos} : PE X (.Constant (.str x) j pos) (tC (.str x)) := fun _ _ _ H _ I h => Calls.Constant_str ⟨.str x, H, I.tok _, ⟨_, rfl⟩, h⟩
def Gl (X : Cx) (x : Str) : Prop := X.env.kindOf x = some .globalImplicit
theorem ld_glob {E : Value → Shared → Prop} {pins : List (Addr × Obj)} {s : Shared} {σ : St} {H : Hp} {x : Str} {u : Value} {pos : Pos} {Q : Value → Shared → Prop} (I : Inv X pins σ H s) (hg : Gl X x) (hm : X.mg x = some u) (h : Q u s)
    (hd : (x == ("__debug__" : Str)) = false := by decide) : wpAny (model X.prog X.w) X.A (eval (.Name x pos) X.env) Q E s :=
  Calls.Name_function_global I.ok.kind hg (Calls.loadGlobal_global (by rw [I.ok.glob]; exact I.mod.glob.keeps I.bk) hm h) hd
theorem ld_blt {E : Value → Shared → Prop} {pins : List (Addr × Obj)} {s : Shared} {σ : St} {H : Hp} {x : Str} {u : Value} {pos : Pos} {Q : Value → Shared → Prop} (I : Inv X pins σ H s) (hg : Gl X x) (hm : X.mg x = none) (hv : bootBuiltins x = some u) (h : Q u s)
    (hn : x ≠ "__name__" := by decide) (hd : (x == ("__debug__" : Str)) = false := by decide) : wpAny (model X.prog X.w) X.A (eval (.Name x pos) X.env) Q E s := by
  obtain ⟨mb, h1, h2⟩ := I.mod.blt
  exact Calls.Name_function_global I.ok.kind hg (Calls.loadGlobal_builtin (by rw [I.ok.glob]; exact I.mod.glob.keeps I.bk) hm (by rw [I.ok.blt]; exact h1.keeps I.bk) ((h2 x hn).trans hv) h) hd
theorem pe_glob {x : Str} {v : V} {u : Value} {pos : Pos} (hg : Gl X x) (hm : X.mg x = some u) (r : RelV v u) (hd : (x == ("__debug__" : Str)) = false := by decide) : PE X (.Name x pos) (tC v) :=
  fun _ _ _ H _ I h => ld_glob I hg hm ⟨v, H, I, r, h⟩ hd
theorem pe_bltn {x : Str} {v : V} {u : Value} {pos : Pos} (hg : Gl X x) (hm : X.mg x = none) (hv : bootBuiltins x = some u) (r : RelV v u) (hn : x ≠ "__name__" := by decide) (hd : (x == ("__debug__" : Str)) = false := by decide) : PE X (.Name x pos) (tC v) :=
  fun _ _ _ H _ I h => ld_blt I hg hm hv ⟨v, H, I, r, h⟩ hn hd
variable {a b : Expr} {ta tb : TE} {pos : Pos}
def PC (X : Cx) (op : CmpOp) (a b : Expr) (t : TE) : Prop :=
  ∀ (pins : List (Addr × Obj)) (s : Shared) (σ : St) (H : Hp) (Q : VK), Inv X pins σ H s → t σ H Q →
    wpAny (model X.prog X.w) X.A (eval a X.env) (fun v s₁ => wpAny (model X.prog X.w) X.A (eval b X.env) (fun u s₂ => wpAny (model X.prog X.w) X.A (compareOp op v u) (EP X pins σ Q) X.xe s₂) X.xe s₁) X.xe s
def tB (t : TE) : TT := fun σ H Q => t σ H fun x H1 => ∃ c, x = .bl c ∧ Q c H1
theorem pt_cmp {op : CmpOp} {t : TE} (h : PC X op a b t) (h1 : behindInMarks op b = false := by first | exact nobehind _ (by decide) (by decide) | rfl) : PT X (.Compare a [op] [b] pos) (tB t) := by
  intro pins s σ H Q I hw
  refine wpAny_isTrue_Compare1 (thn (h pins s σ H _ I hw) fun v s1 h1 => thn h1 fun u s2 h2 => thn h2 fun c s3 ⟨x, H1, I1, r1, q1⟩ => ?_) h1
  obtain ⟨d, rfl, q⟩ := q1
  cases r1
  exact wpAny_truthy_bool ⟨H1, I1, q⟩
theorem pt_val {e : Expr} {t : TE} (h : PE X e t) (he : ∀ whole, isTrue e X.env whole = (do let v ← whole; standAt e.pos; holding [v] (truthy v)) := by intro _; rfl) : PT X e (tB t) := by
  intro pins s σ H Q I hw
  refine isTrue_plain (thn (h pins s σ H _ I hw) fun v s1 ⟨x, H1, I1, r1, q1⟩ => ?_) (he _)
  obtain ⟨d, rfl, q⟩ := q1
  cases r1
  exact wpAny_truthy_bool ⟨H1, I1, q⟩
variable {tA tB' : TT} {rest : List Expr}
def tAnd (t u : TT) : TT := fun σ H Q => t σ H fun c H1 => if c = true then u σ H1 Q else Q false H1
def tOr (t u : TT) : TT := fun σ H Q => t σ H fun c H1 => if c = true then Q true H1 else u σ H1 Q
def tNot (t : TT) : TT := fun σ H Q => t σ H fun c H1 => Q (!c) H1
theorem pw_and1 (ha : PT X a tA) : PW X (.BoolOp .And [a] pos) tA := by
  intro wh pins s σ H Q I h
  refine isTrue_and (thn (ha pins s σ H Q I h) fun c s1 e => ?_)
  cases c with
  | true => exact isTrue_and_nil e
  | false => exact e
theorem pw_or1 (ha : PT X a tA) : PW X (.BoolOp .Or [a] pos) tA := by
  intro wh pins s σ H Q I h
  refine isTrue_or (thn (ha pins s σ H Q I h) fun c s1 e => ?_)
  cases c with
  | false => exact isTrue_or_nil e
  | true => exact e
theorem pw_and (ha : PT X a tA) (hb : PW X (.BoolOp .And (b :: rest) pos) tB') : PW X (.BoolOp .And (a :: b :: rest) pos) (tAnd tA tB') := by
  intro wh pins s σ H Q I h
  refine isTrue_and (thn (ha pins s σ H _ I h) fun c s1 ⟨H1, I1, q1⟩ => ?_)
  cases c with
  | true => exact hb wh pins s1 σ H1 Q I1 q1
  | false => exact ⟨H1, I1, q1⟩
theorem pw_or (ha : PT X a tA) (hb : PW X (.BoolOp .Or (b :: rest) pos) tB') : PW X (.BoolOp .Or (a :: b :: rest) pos) (tOr tA tB') := by
  intro wh pins s σ H Q I h
  refine isTrue_or (thn (ha pins s σ H _ I h) fun c s1 ⟨H1, I1, q1⟩ => ?_)
  cases c with
  | true => exact ⟨H1, I1, q1⟩
  | false => exact hb wh pins s1 σ H1 Q I1 q1
theorem pt_not (ha : PT X a tA) : PT X (.UnaryOp .Not a pos) (tNot tA) := by
  intro pins s σ H Q I h
  exact isTrue_not (ha pins s σ H (fun c H1 => Q (!c) H1) I h)
def tAndV (ta tb : TE) : TE := fun σ H Q => ta σ H fun x H1 => ∃ c, x = .bl c ∧ if c = true then tb σ H1 Q else Q (.bl false) H1
def tNotV (ta : TE) : TE := fun σ H Q => ta σ H fun x H1 => ∃ c, x = .bl c ∧ Q (.bl (!c)) H1
theorem pe_one {op} {t : TE} (h : PE X a t) : PE X (.BoolOp op [a] pos) t := fun pins s σ H Q I hw => BoolOp_one (h pins s σ H Q I hw)
theorem pe_and (ha : PE X a ta) (hb : PE X (.BoolOp .And (b :: rest) pos) tb) : PE X (.BoolOp .And (a :: b :: rest) pos) (tAndV ta tb) := by
  intro pins s σ H Q I h
  refine BoolOp_and (thn (ha pins s σ H _ I h) fun v s1 ⟨x, H1, I1, r1, q1⟩ => ?_)
  obtain ⟨c, rfl, q1⟩ := q1
  cases r1
  refine wpAny_truthy_bool ?_
  cases c with
  | true => exact hb pins s1 σ H1 Q I1 q1
  | false => exact ⟨.bl false, H1, I1, rfl, q1⟩
theorem pe_not (ha : PE X a ta) : PE X (.UnaryOp .Not a pos) (tNotV ta) := by
  intro pins s σ H Q I h
  refine UnaryOp_ (thn (ha pins s σ H _ I h) fun v s1 ⟨x, H1, I1, r1, q1⟩ => ?_)
  obtain ⟨c, rfl, q1⟩ := q1
  cases r1
  exact not_of (wpAny_truthy_bool ⟨.bl (!c), H1, I1, rfl, q1⟩)
end
end L2
namespace L2
open PySem PySem.Spec PyProof.Rows
def SqL (K : PySem.W.Frag) (H : Hp) (a : Addr) (xs : List V) : Prop :=
  Rd H a (.lst xs) ∨
    ∃ (o : Obj) (its : Array Value) (n : Nat), K.lookup a = some o ∧ o.cls = .type "list" ∧ o.dict = none ∧ o.data = .seq its n ∧ its.size ≤ sizeLine ∧ Vals xs its.toList
def SqT (K : PySem.W.Frag) (H : Hp) (a : Addr) (xs : List V) : Prop :=
  Rd H a (.tup xs) ∨
    ∃ (o : Obj) (its : Array Value) (n : Nat), K.lookup a = some o ∧ o.cls = .type "tuple" ∧ o.data = .seq its n ∧ its.size ≤ sizeLine ∧ Vals xs its.toList
def absV : Value → Option V
  | .none => some .non
  | .bool b => some (.bl b)
  | .int i _ => some (.int i)
  | .str x _ => some (.str x)
  | .bytes b _ => some (.byt b)
  | .float b _ => some (.flt b)
  | .ref a => some (.ref a)
  | .type n => some (.ty n)
  | _ => none
theorem RelV.abs {x : V} {u : Value} (r : RelV x u) : absV u = some x := by
  cases x with
  | non => cases r; rfl
  | bl _ => cases r; rfl
  | int _ => obtain ⟨t, rfl⟩ := r; rfl
  | str _ => obtain ⟨t, rfl⟩ := r; rfl
  | byt _ => obtain ⟨t, rfl⟩ := r; rfl
  | flt _ => obtain ⟨t, rfl⟩ := r; rfl
  | ref _ => cases r; rfl
  | ty _ => cases r; rfl
theorem RelV.inj {x y : V} {u : Value} (r : RelV x u) (q : RelV y u) : x = y := Option.some.inj (r.abs.symm.trans q.abs)
theorem Vals.inj : ∀ {xs ys : List V} {us : List Value}, Vals xs us → Vals ys us → xs = ys
  | _, _, _, .nil, .nil => rfl
  | _, _, _, .cons r t, .cons r' t' => by rw [r.inj r', Vals.inj t t']
section
variable {X : Cx} {pins : List (Addr × Obj)} {σ : St} {H : Hp} {s : Shared} {a : Addr} {xs ys : List V}
theorem SqL.of {K : PySem.W.Frag} (h : H a = some (.lst xs)) : SqL K H a xs := .inl (.inl h)
theorem SqT.of {K : PySem.W.Frag} (h : H a = some (.tup xs)) : SqT K H a xs := .inl (.inl h)
theorem Inv.list (I : Inv X pins σ H s) (h : SqL X.K H a xs) : ∃ its : List Value, Vals xs its ∧ PlainL s.heap a its.toArray ∧ xs.length ≤ sizeLine := by
  rcases h with h | ⟨o, its, n, hk, hc, hd, hs, hz, r⟩
  · obtain ⟨z, its, n, r, e⟩ := h.ok I.hok
    exact ⟨its, r, ⟨_, n, e, rfl, rfl, rfl⟩, z⟩
  · refine ⟨its.toList, r, ⟨o, n, I.kIn a o hk, hc, hd, by simpa using hs⟩, ?_⟩
    have e := r.length
    simp only [Array.length_toList] at e
    omega
theorem Inv.tuple (I : Inv X pins σ H s) (h : SqT X.K H a xs) : ∃ its : List Value, Vals xs its ∧ IsTup s.heap a its.toArray ∧ xs.length ≤ sizeLine := by
  rcases h with h | ⟨o, its, n, hk, hc, hs, hz, r⟩
  · obtain ⟨z, its, r, p⟩ := h.ok I.hok
    exact ⟨its, r, p, z⟩
  · refine ⟨its.toList, r, ⟨o, I.kIn a o hk, hc, n, by simpa using hs⟩, ?_⟩
    have e := r.length
    simp only [Array.length_toList] at e
    omega
theorem Inv.list_inj (I : Inv X pins σ H s) (h : SqL X.K H a xs) (h' : SqL X.K H a ys) : xs = ys := by
  obtain ⟨its, r, ⟨o, n, e, _, _, d⟩, _⟩ := I.list h
  obtain ⟨its', r', ⟨o', n', e', _, _, d'⟩, _⟩ := I.list h'
  rw [e] at e'; cases e'
  rw [d] at d'
  injection d' with d1 _
  have : its = its' := by simpa using congrArg Array.toList d1
  subst this
  exact r.inj r'
theorem Inv.tuple_inj (I : Inv X pins σ H s) (h : SqT X.K H a xs) (h' : SqT X.K H a ys) : xs = ys := by
  obtain ⟨its, r, ⟨o, e, _, n, d⟩, _⟩ := I.tuple h
  obtain ⟨its', r', ⟨o', e', _, n', d'⟩, _⟩ := I.tuple h'
  rw [e] at e'; cases e'
  rw [d] at d'
  injection d' with d1 _
  have : its = its' := by simpa using congrArg Array.toList d1
  subst this
  exact r.inj r'
end
abbrev Cx.wish (X : Cx) (E : Value → Shared → Prop) : Cx := { X with xe := E }
abbrev Cx.nox (X : Cx) : Cx := X.wish fun _ _ => False
theorem Cx.Ok.wish {X : Cx} (ok : X.Ok) (E : Value → Shared → Prop) : (X.wish E).Ok :=
  ⟨ok.mod, ok.kind, ok.glob, ok.blt, ok.above, ok.inj, ok.has, ok.cab, ok.hd, ok.frames, ok.stk, ok.exf, ok.bs, ok.bsz, ok.noex, ok.exfs, ok.funs, ok.frf⟩
theorem Cx.Ok.unwish {X : Cx} {E : Value → Shared → Prop} (ok : (X.wish E).Ok) : X.Ok :=
  ⟨ok.mod, ok.kind, ok.glob, ok.blt, ok.above, ok.inj, ok.has, ok.cab, ok.hd, ok.frames, ok.stk, ok.exf, ok.bs, ok.bsz, ok.noex, ok.exfs, ok.funs, ok.frf⟩
section
variable {X : Cx} {pins : List (Addr × Obj)} {σ : St} {H : Hp} {s : Shared} {E : Value → Shared → Prop}
theorem Inv.wish (I : Inv X pins σ H s) (E : Value → Shared → Prop) : Inv (X.wish E) pins σ H s := ⟨I.ok.wish E, I.os, I.bare, I.base, I.loc, I.cell, I.free, I.freeC, I.pin, I.hok, I.len⟩
theorem Inv.unwish (I : Inv (X.wish E) pins σ H s) : Inv X pins σ H s := ⟨I.ok.unwish, I.os, I.bare, I.base, I.loc, I.cell, I.free, I.freeC, I.pin, I.hok, I.len⟩
theorem SP.unwish {D : Ends} {f : Flow} {s' : Shared} (h : SP (X.wish E) pins D f s') : SP X pins D f s' := by
  cases f with
  | next => obtain ⟨σ', H', I, q⟩ := h; exact ⟨σ', H', I.unwish, q⟩
  | brk => obtain ⟨σ', H', I, q⟩ := h; exact ⟨σ', H', I.unwish, q⟩
  | cont => obtain ⟨σ', H', I, q⟩ := h; exact ⟨σ', H', I.unwish, q⟩
  | ret u => obtain ⟨v, σ', H', I, r, q⟩ := h; exact ⟨v, σ', H', I.unwish, r, q⟩
theorem PSs.nox {st : List Stmt} {t : TS} (h : PSs X.nox st t) : PSs X st t := fun pins s σ H D I hw =>
  wpAny_mono (h pins s σ H D (I.wish _) hw) (fun _ _ q => q.unwish) fun _ _ z => False.elim z
end
section
variable {X : Cx} {st : Stmt} {rest : List Stmt} {t u : TS} {e : Expr} {te : TE} {pos : Pos}
def tNext : TS := fun D σ H => D.nx σ H
def tSeq (t u : TS) : TS := fun D σ H => t { D with nx := u D } σ H
theorem pss_nil : PSs X [] tNext := fun _ _ σ H _ I h => wpAny_execs_nil ⟨σ, H, I, h⟩
theorem pss_cons (h1 : PS X st t) (h2 : PSs X rest u) : PSs X (st :: rest) (tSeq t u) := by
  intro pins s σ H D I h
  refine wpAny_execs_cons (thn (h1 pins s σ H { D with nx := u D } I h) fun f s1 q => ?_)
  cases f with
  | next =>
    obtain ⟨σ', H', I', q⟩ := q
    exact h2 pins s1 σ' H' D I' q
  | ret v => exact q
  | brk => exact q
  | cont => exact q
theorem pss_one (h1 : PS X st t) : PSs X [st] t := by
  intro pins s σ H D I h
  refine wpAny_execs_cons (thn (h1 pins s σ H D I h) fun f s1 q => ?_)
  cases f with
  | next => exact wpAny_execs_nil q
  | ret v => exact q
  | brk => exact q
  | cont => exact q
theorem Inv.quiet {pins : List (Addr × Obj)} {σ : St} {H : Hp} {s : Shared} (I : Inv X pins σ H s) : interactive X.env = false := by simp [interactive, I.ok.kind]
def tDrop (te : TE) : TS := fun D σ H => te σ H fun _ H1 => D.nx σ H1
theorem ps_expr (he : PE X e te) (hs : swapsWith e none pos.line X.env = pure false := by rfl) : PS X (.Expr e pos) (tDrop te) := by
  intro pins s σ H D I h
  exact wpAny_Expr_any (thn (he pins s σ H _ I h) fun v s1 ⟨x, H1, I1, r1, q1⟩ => ⟨σ, H1, I1, q1⟩) I.quiet hs
def tRet (te : TE) : TS := fun D σ H => te σ H D.rt
theorem ps_ret (he : PE X e te) : PS X (.Return (some e) pos) (tRet te) := by
  intro pins s σ H D I h
  exact wpAny_Return_some (thn (he pins s σ H _ I h) fun v s1 ⟨x, H1, I1, r1, q1⟩ => ⟨x, σ, H1, I1, r1, q1⟩)
def tIfS (c : TT) (t u : TS) : TS := fun D σ H => c σ H fun b H1 => if b = true then t D σ H1 else u D σ H1
theorem ps_if {c : Expr} {a b : List Stmt} {tc : TT} (hc : PT X c tc) (ha : PSs X a t) (hb : PSs X b u) : PS X (.If c a b pos) (tIfS tc t u) := by
  intro pins s σ H D I h
  refine wpAny_If (thn (hc pins s σ H _ I h) fun d s1 ⟨H1, I1, q1⟩ => ?_)
  cases d with
  | true => exact ha pins s1 σ H1 D I1 q1
  | false => exact hb pins s1 σ H1 D I1 q1
def tNever : TS := fun _ _ _ => False
theorem ps_never : PS X st tNever := fun _ _ _ _ _ _ h => h.elim
end
abbrev TG := V → St → Hp → (St → Hp → Prop) → Prop
abbrev TGs := List V → St → Hp → (St → Hp → Prop) → Prop
def PG (X : Cx) (target : Expr) (t : TG) : Prop :=
  ∀ (pins : List (Addr × Obj)) (s : Shared) (σ : St) (H : Hp) (v : V) (u : Value) (Q : St → Hp → Prop), Inv X pins σ H s → RelV v u → t v σ H Q →
    wpAny (model X.prog X.w) X.A (assign target X.env u) (fun _ s' => ∃ σ' H', Inv X pins σ' H' s' ∧ Q σ' H') X.xe s
def PGs (X : Cx) (ts : List Expr) (t : TGs) : Prop :=
  ∀ (pins : List (Addr × Obj)) (s : Shared) (σ : St) (H : Hp) (vs : List V) (us : List Value) (Q : St → Hp → Prop), Inv X pins σ H s → Vals vs us → t vs σ H Q →
    wpAny (model X.prog X.w) X.A (assignInOrder ((assignEach ts X.env).map (·.2)) us) (fun _ s' => ∃ σ' H', Inv X pins σ' H' s' ∧ Q σ' H') X.xe s
section
variable {X : Cx} {pos : Pos}
def gName (i : Nat) : TG := fun v σ H Q => Q (σ.set i (some v)) H
theorem pg_name {i : Nat} {x : Str} (hN : X.N.Nodup) (hi : X.N[i]? = some x) (hx : Loc X.env.scope x) (hf : X.fn x = true ∨ X.env.scope.names.lookup x = some .local := by first | exact .inl rfl | exact .inr rfl | assumption) : PG X (.Name x pos) (gName i) := by
  intro pins s σ H v u Q I r h
  exact wpAny_assign_Name (store_ok I hN hi hx r (fun s' I' => ⟨_, H, I', h⟩) hf)
def gNil : TGs := fun vs σ H Q => vs = [] ∧ Q σ H
def gCons (t : TG) (u : TGs) : TGs := fun vs σ H Q => ∃ v r, vs = v :: r ∧ t v σ H fun σ' H' => u r σ' H' Q
theorem pgs_nil : PGs X [] gNil := by
  intro pins s σ H vs us Q I r h
  obtain ⟨e, h⟩ := h
  subst e
  cases r
  exact assignInOrder_nil ⟨σ, H, I, h⟩
theorem pgs_cons {e : Expr} {es : List Expr} {t : TG} {u : TGs} (h1 : PG X e t) (h2 : PGs X es u)
    (hs : (assignEach (e :: es) X.env).map (·.2) = assign e X.env :: (assignEach es X.env).map (·.2) := by rfl) : PGs X (e :: es) (gCons t u) := by
  intro pins s σ H vs us Q I r h
  obtain ⟨v, vr, e1, h⟩ := h
  subst e1
  cases r with
  | cons r rr =>
    rw [hs]
    refine assignInOrder_cons (thn (h1 pins s σ H _ _ _ I r h) fun _ s1 ⟨σ1, H1, I1, q1⟩ => ?_)
    exact h2 pins s1 σ1 H1 _ _ Q I1 rr q1
def gTup (K : PySem.W.Frag) (n : Nat) (t : TGs) : TG := fun v σ H Q => ∃ a xs, v = .ref a ∧ SqT K H a xs ∧ xs.length = n ∧ t xs σ H Q
theorem pg_tup {es : List Expr} {k : Nat} {t : TGs} {n : Nat} (hc : X.calm = true) (h : PGs X es t)
    (hn : (assignEach es X.env).length = n := by rfl) (hst : (assignEach es X.env).findIdx? (·.1) = none := by rfl) : PG X (.Tuple es k pos) (gTup X.K n t) := by
  intro pins s σ H v u Q I r hw
  obtain ⟨a, xs, e1, hq, hl, hw⟩ := hw
  subst e1
  cases r
  obtain ⟨its, rv, ht, hz⟩ := I.tuple hq
  refine assign_Tuple_tuple (I.ok.hd hc) ht (by simp [hn, ← hl, rv.length]) hst fun h' hx => ?_
  have I1 : Inv X pins σ H { s with heap := h' } := I.kept (t' := s.toks) fun b o e => hx b o (Nat.ne_of_lt (Heap.lt_size e)) e
  exact h pins _ σ H xs _ Q I1 (by simpa using rv) hw
def tAsg (te : TE) (g : TG) : TS := fun D σ H => te σ H fun x H1 => g x σ H1 D.nx
theorem ps_set {i : Nat} {x : Str} {e : Expr} {te : TE} {pos' : Pos} (hN : X.N.Nodup) (hi : X.N[i]? = some x) (hx : Loc X.env.scope x) (he : PE X e te) (hs : swapsWith e (some (.Name x pos')) pos.line X.env = pure false := by rfl) (hf : X.fn x = true ∨ X.env.scope.names.lookup x = some .local := by first | exact .inl rfl | exact .inr rfl | assumption) :
    PS X (.Assign [.Name x pos'] e pos) (tAsg te (gName i)) := by
  intro pins s σ H D I h
  refine wpAny_Assign_Name (thn (he pins s σ H _ I h) fun v s1 ⟨y, H1, I1, r1, q1⟩ => ?_) hs
  exact store_ok I1 hN hi hx r1 (fun s2 I2 => ⟨_, H1, I2, q1⟩) hf
end
section
variable {X : Cx} {pos : Pos}
end
structure It where
  go : Nat → Hp → Prop
  yld : Nat → Hp → V → Hp → Prop
  stop : Nat → Hp → Prop
def FpOk (X : Cx) (pins : List (Addr × Obj)) (H : Hp) (b : Addr) : Prop :=
  H b = none ∧ b ≠ X.env.locals ∧ b ∉ X.fs ∧ (b ∈ X.ex ∨ X.s₀.heap.objs.size ≤ b) ∧ (∀ x c, X.env.cells.lookup x = some c → c ≠ b) ∧ ∀ p ∈ X.pn ++ pins, p.1 ≠ b
theorem Inv.fpOk {X : Cx} {pins : List (Addr × Obj)} {σ : St} {H H' : Hp} {s : Shared} {b : Addr} (I : Inv X pins σ H s) (hb : s.heap.objs.size ≤ b) (hn : H' b = none) : FpOk X pins H' b := by
  refine ⟨hn, Nat.ne_of_gt (Nat.lt_of_lt_of_le I.lt hb), I.nofs hb, .inr (Nat.le_trans I.sz hb), fun x c e z => ?_, fun p hp z => ?_⟩
  · obtain ⟨v, q⟩ := I.cell x c e
    exact absurd (Nat.lt_of_lt_of_le q.lt (by rw [z]; exact hb)) (Nat.lt_irrefl _)
  · exact absurd (Nat.lt_of_lt_of_le (Heap.lt_size (I.pin p hp).1) (by rw [z]; exact hb)) (Nat.lt_irrefl _)
structure Turn (P : Program) (w : World) (K : PySem.W.Frag) (tg : Expr) (J : It) (fp : List Addr) (it : Addr) (tn : Nat → Heap → Prop) : Prop where
  mem : it ∈ fp
  obj : ∀ i h, tn i h → ∀ b ∈ fp, ∃ o, h.get? b = some o ∧ ∀ v, o.data ≠ .cell v
  keep : ∀ i h h', tn i h → (∀ b ∈ fp, ∀ o, h.get? b = some o → h'.get? b = some o) → tn i h'
  item : ∀ (X : Cx), X.prog = P → X.w = w → X.K = K → X.calm = true → ∀ (i : Nat) (pins : List (Addr × Obj)) (s : Shared) (σ : St) (H : Hp) (E : Value → Shared → Prop), Inv X pins σ H s → (∀ b ∈ fp, FpOk X pins H b) → tn i s.heap → J.go i H →
    wpAny (model P w) X.A (pyNext (.ref it)) (fun r s1 => ∃ u, r = some u ∧
      wpAny (model P w) X.A (letOwnedTupleGo tg (.ref it) u) (fun _ s2 => ∃ x H', Inv X pins σ H' s2 ∧ RelV x u ∧ J.yld i H x H' ∧ tn (i + 1) s2.heap ∧ ∀ b ∈ fp, H' b = none) E s1) E s
  done : ∀ (X : Cx), X.prog = P → X.w = w → X.K = K → X.calm = true → ∀ (i : Nat) (pins : List (Addr × Obj)) (s : Shared) (σ : St) (H : Hp) (E : Value → Shared → Prop), Inv X pins σ H s → (∀ b ∈ fp, FpOk X pins H b) → tn i s.heap → J.stop i H →
    wpAny (model P w) X.A (pyNext (.ref it)) (fun r s1 => r = none ∧ Inv X pins σ H s1) E s
  self : ∀ (A : Around) (i : Nat) (s : Shared) (Q : Value → Shared → Prop) (E : Value → Shared → Prop), tn i s.heap → Q (.ref it) s → wpAny (model P w) A (pyIter (.ref it)) Q E s
abbrev TI := St → Hp → (It → Hp → Prop) → Prop
def PIE (X : Cx) (pins : List (Addr × Obj)) (σ : St) (tg : Expr) (R : It → Hp → Prop) (itv : Value) (s2 : Shared) : Prop :=
  ∃ (it : Addr) (fp : List Addr) (tn : Nat → Heap → Prop) (J : It) (H' : Hp), itv = .ref it ∧ Inv X pins σ H' s2 ∧ Turn X.prog X.w X.K tg J fp it tn ∧ tn 0 s2.heap ∧ (∀ b ∈ fp, FpOk X pins H' b) ∧ R J H'
def PI (X : Cx) (tg iter : Expr) (wi : TI) : Prop :=
  ∀ (pins : List (Addr × Obj)) (s : Shared) (σ : St) (H : Hp) (R : It → Hp → Prop), Inv X pins σ H s → wi σ H R →
    wpAny (model X.prog X.w) X.A (eval iter X.env) (fun v s1 => wpAny (model X.prog X.w) X.A (pyIter v) (PIE X pins σ tg R) X.xe s1) X.xe s
theorem go_of {M : Model} {A : Around} {E : Value → Shared → Prop} {s : Shared} {tg : Expr} {it : Addr} {u : Value} {o : Obj} {n : String} {vs : Array Value} {Q : Unit → Shared → Prop} (ho : s.heap.get? it = some o) (hc : o.cls = .type n) (hd : o.data = .fields vs)
    (hn : ["enumerate", "zip", "dict_itemiterator", "dict_reverseitemiterator", "odict_iterator", "itertools.zip_longest", "itertools.pairwise"].contains n = false) (hQ : Q () s) : wpAny M A (letOwnedTupleGo tg (.ref it) u) Q E s := by
  unfold letOwnedTupleGo
  cases tg <;> first
    | exact wpAny_pure hQ
    | (cases u <;> first
        | exact wpAny_pure hQ
        | (refine wpAny_bind (wpAny_load ho ?_)
           rw [hc, hd]
           show wpAny M A (if (["enumerate", "zip", "dict_itemiterator", "dict_reverseitemiterator", "odict_iterator", "itertools.zip_longest", "itertools.pairwise"].contains n && vs[0]? == some (rawInt _)) = true then _ else _) Q E s
           rw [if_neg (by intro h; rw [hn, Bool.false_and] at h; cases h)]
           exact wpAny_pure hQ))
def Itl (K : PySem.W.Frag) (a : Addr) : It :=
  ⟨fun i H => ∃ xs x, SqL K H a xs ∧ xs[i]? = some x, fun i H x H' => H' = H ∧ ∀ xs, SqL K H a xs → xs[i]? = some x, fun i H => ∃ xs, SqL K H a xs ∧ xs.length ≤ i⟩
def Itr (lo : Int) (n : Nat) : It := ⟨fun i _ => i < n, fun i H x H' => H' = H ∧ x = .int (lo + i), fun i _ => n ≤ i⟩
theorem turn_list {P : Program} {w : World} {K : PySem.W.Frag} {tg : Expr} (a it : Addr) : Turn P w K tg (Itl K a) [it] it (fun i h => h.IsListIter it a i) where
  mem := by simp
  obj := fun i h st b hb => by
    have e : b = it := by simpa using hb
    subst e
    obtain ⟨o, e, c, d⟩ := st
    exact ⟨o, e, fun v z => by rw [d] at z; cases z⟩
  keep := fun i h h' st k => st.at fun o e => k it (by simp) o e
  item := by
    intro X hP hw hK hc i pins s σ H E I hf st hg
    subst hP hw hK
    obtain ⟨xs, x, hq, hx⟩ := hg
    obtain ⟨its, rv, p, hz⟩ := I.list hq
    obtain ⟨u, hu, ru⟩ := rv.get hx
    obtain ⟨f0, f1, f2, f3, f4, f5⟩ := hf it (by simp)
    refine wpAny_pyNext_list_item st p.isList (x := u) (by simpa using hu) fun h' st' sb => ?_
    have I1 : Inv X pins σ H { s with heap := h' } := I.turned (t' := s.toks) (fun b o hb e => (sb.2 b hb).trans e) f0 f1 f3 f4 f5
    obtain ⟨o, e, c, d⟩ := id st'
    exact ⟨u, rfl, go_of (s := { s with heap := h' }) e c d (by decide) ⟨x, H, I1, ru, ⟨rfl, fun ys hy => by rw [I.list_inj hy hq]; exact hx⟩, st', fun b hb => (hf b hb).1⟩⟩
  done := by
    intro X hP hw hK hc i pins s σ H E I hf st hg
    subst hP hw hK
    obtain ⟨xs, hq, hx⟩ := hg
    obtain ⟨its, rv, p, hz⟩ := I.list hq
    obtain ⟨f0, f1, f2, f3, f4, f5⟩ := hf it (by simp)
    have hl := rv.length
    exact wpAny_pyNext_list_end (I.ok.hd hc) st p.isList (by simp; omega) fun h' eb => ⟨rfl, I.turned (t' := s.toks) (fun b o hb e => eb b o hb e) f0 f1 f3 f4 f5⟩
  self := fun _ _ _ _ _ st h => wpAny_pyIter_listiter st h
theorem turn_range {P : Program} {w : World} {K : PySem.W.Frag} {tg : Expr} (it : Addr) (lo : Int) (n : Nat) : Turn P w K tg (Itr lo n) [it] it (fun i h => IsRangeIter h it (lo + (i : Nat) * 1) ((n : Int) - (i : Nat)) 1) where
  mem := by simp
  obj := fun i h st b hb => by
    have e : b = it := by simpa using hb
    subst e
    exact ⟨_, st, fun v z => by
      have z' : Data.fields _ = Data.cell v := z
      cases z'⟩
  keep := fun i h h' st k => k it (by simp) _ st
  item := by
    intro X hP hw hK hc i pins s σ H E I hf st hg
    subst hP hw hK
    obtain ⟨f0, f1, f2, f3, f4, f5⟩ := hf it (by simp)
    have W := Walks.range (prog := X.prog) (w := X.w) (I.ok.hd hc) it lo 1 n
    refine W.item i s _ _ hg st fun v h' tk hv st' kk => ?_
    obtain ⟨t, rfl⟩ := hv
    have I1 : Inv X pins σ H { s with heap := h', toks := tk } := I.turned (fun b o hb e => kk b o (by simpa using hb) e) f0 f1 f3 f4 f5
    refine ⟨_, rfl, go_of (s := { s with heap := h', toks := tk }) (n := "range_iterator") st' rfl rfl (by decide) ⟨.int (lo + i), H, I1, ⟨t, ?_⟩, ⟨rfl, rfl⟩, st', fun b hb => (hf b hb).1⟩⟩
    rw [Int.mul_one]
  done := by
    intro X hP hw hK hc i pins s σ H E I hf st hg
    subst hP hw hK
    obtain ⟨f0, f1, f2, f3, f4, f5⟩ := hf it (by simp)
    exact wpAny_pyNext_range_end (I.ok.hd hc) st (by have : n ≤ i := hg; omega) fun h' eb => ⟨rfl, I.turned (t' := s.toks) (fun b o hb e => eb b o hb e) f0 f1 f3 f4 f5⟩
  self := fun _ _ _ _ _ st h => wpAny_pyIter_rangeiter st h
end L2
namespace L2
open PySem PySem.Spec PyProof.Rows
section
variable {X : Cx} {tg : Expr}
def iList (K : PySem.W.Frag) (tl : TE) : TI := fun σ H R => tl σ H fun x H1 => ∃ a, x = .ref a ∧ (∃ xs, SqL K H1 a xs) ∧ R (Itl K a) H1
theorem pi_list {l : Expr} {tl : TE} (hl : PE X l tl) : PI X tg l (iList X.K tl) := by
  intro pins s σ H R I h
  refine thn (hl pins s σ H _ I h) fun v s1 ⟨x, H1, I1, r1, q1⟩ => ?_
  obtain ⟨a, e, ⟨xs, hq⟩, q⟩ := q1
  subst e
  cases r1
  obtain ⟨its, rv, p, hz⟩ := I1.list hq
  refine wpAny_pyIter_list p.isList ?_
  refine ⟨s1.heap.objs.size, [s1.heap.objs.size], _, _, H1, rfl, I1.kept (t' := s1.toks) fun b o e => Heap.get?_push_of_some _ e, turn_list a _, ⟨_, Heap.get?_push_size _ rfl, rfl, rfl⟩, fun b hb => ?_, q⟩
  have e : b = s1.heap.objs.size := by simpa using hb
  subst e
  exact I1.fpOk (Nat.le_refl _) (I1.hok.fresh (Nat.le_refl _))
theorem range_it {pins : List (Addr × Obj)} {σ : St} {H : Hp} {s : Shared} {R : It → Hp → Prop} {E : Value → Shared → Prop} {lo hi : Int} {t u v : Tok} {tk : Nat} (I : Inv X pins σ H s) (h1 : -(2 ^ 62) ≤ lo) (h2 : lo < 2 ^ 62) (h3 : -(2 ^ 62) ≤ hi) (h4 : hi < 2 ^ 62)
    (q : R (Itr lo (hi - lo).toNat) H) : wpAny (model X.prog X.w) X.A (pyIter (.ref s.heap.objs.size)) (PIE X pins σ tg R) E { s with heap := s.heap.push { cls := .type "range", data := .fields #[.int lo t, .int hi u, .int 1 v] }, toks := tk } := by
  refine wpAny_pyIter_range (IsRange.new ..) (small_one h1 h2 h3 h4) ?_
  have I1 : Inv X pins σ H { s with heap := s.heap.push { cls := .type "range", data := .fields #[.int lo t, .int hi u, .int 1 v] }, toks := tk } := I.kept fun b o e => Heap.get?_push_of_some _ e
  refine ⟨(s.heap.push { cls := .type "range", data := .fields #[.int lo t, .int hi u, .int 1 v] }).objs.size, [(s.heap.push { cls := .type "range", data := .fields #[.int lo t, .int hi u, .int 1 v] }).objs.size], _, _, H, rfl,
    I1.kept (t' := tk) fun b o e => Heap.get?_push_of_some _ e, turn_range _ lo (hi - lo).toNat, ?_, fun b hb => ?_, q⟩
  · have e1 : lo + ((0 : Nat) : Int) * 1 = lo := by simp
    have e2 : (((hi - lo).toNat : Nat) : Int) - ((0 : Nat) : Int) = Builtin.Range.rangeSize lo hi 1 := by rw [rangeSize_one]; split <;> omega
    show IsRangeIter _ _ (lo + ((0 : Nat) : Int) * 1) ((((hi - lo).toNat : Nat) : Int) - ((0 : Nat) : Int)) 1
    rw [e1, e2]
    exact Heap.get?_push_size _ rfl
  · have e : b = (s.heap.push { cls := .type "range", data := .fields #[.int lo t, .int hi u, .int 1 v] }).objs.size := by simpa using hb
    subst e
    exact I1.fpOk (Nat.le_refl _) (I1.hok.fresh (Nat.le_refl _))
def iRng1 (ta : TA) : TI := fun σ H R => ta σ H fun vs H1 => ∃ j : Int, vs = [.int j] ∧ -(2 ^ 62) ≤ j ∧ j < 2 ^ 62 ∧ R (Itr 0 j.toNat) H1
theorem pi_range1 {a : Expr} {ta : TA} {p pos : Pos} (hg : Gl X "range") (hm : X.mg "range" = none) (ha : PA X [a] ta) (hs : starEach [a] X.env = [(false, eval a X.env)] := by rfl) : PI X tg (.Call (.Name "range" p) [a] [] pos) (iRng1 ta) := by
  intro pins s σ H R I h
  refine Call_ (ld_blt I hg hm boot_range (PyProof.Rows.callWith_type1 (thn (ha pos pins s σ H _ I h) fun us s1 ⟨vs, H1, I1, r1, q1⟩ => ?_) hs rfl))
  obtain ⟨j, e, q1, q2, q⟩ := q1
  subst e
  cases r1 with
  | cons r rr =>
    cases rr
    obtain ⟨t, rfl⟩ := r
    exact call_range_1 (range_it I1 (by omega) (by omega) q1 q2 (by simpa using q))
def tFor (wi : TI) (g : TG) (tb : TS) : TS := fun D σ H => wi σ H fun J H1 => ∃ W : Nat → Nat → St → Hp → Prop, (∃ m, W 0 m σ H1) ∧ ∀ i m σ H, W i m σ H →
  (J.stop i H ∧ D.nx σ H) ∨ (J.go i H ∧ ∃ N : St → Hp → Prop, (∀ σ' H', N σ' H' → ∃ m', m' < m ∧ W (i + 1) m' σ' H') ∧ ∀ x H', J.yld i H x H' → g x σ H' fun σ2 H2 => tb { D with nx := N, ct := N, bk := D.nx } σ2 H2)
def pinsAt (fp : List Addr) (h : Heap) : List (Addr × Obj) := fp.filterMap fun b => (h.get? b).map fun o => (b, o)
theorem mem_pinsAt {fp : List Addr} {h : Heap} {b : Addr} {o : Obj} (hb : b ∈ fp) (e : h.get? b = some o) : (b, o) ∈ pinsAt fp h := List.mem_filterMap.mpr ⟨b, hb, by rw [e]; rfl⟩
theorem of_pinsAt {fp : List Addr} {h : Heap} {p : Addr × Obj} (hp : p ∈ pinsAt fp h) : p.1 ∈ fp ∧ h.get? p.1 = some p.2 := by
  obtain ⟨b, hb, e⟩ := List.mem_filterMap.mp hp
  cases q : h.get? b with
  | none => rw [q] at e; cases e
  | some o =>
    rw [q] at e
    have e' : (b, o) = p := Option.some.inj e
    subst e'
    exact ⟨hb, q⟩
theorem Inv.pinned {pins : List (Addr × Obj)} {σ : St} {H : Hp} {s : Shared} {fp : List Addr} (I : Inv X pins σ H s) (hf : ∀ b ∈ fp, FpOk X pins H b) (ho : ∀ b ∈ fp, ∃ o, s.heap.get? b = some o ∧ ∀ v, o.data ≠ .cell v) : Inv X (pins ++ pinsAt fp s.heap) σ H s :=
  I.pins_of fun p hp => (List.mem_append.mp hp).elim (fun z => I.pin p (List.mem_append_right _ z)) fun z => by
    obtain ⟨hb, e⟩ := of_pinsAt z
    obtain ⟨f0, f1, f2, _⟩ := hf p.1 hb
    obtain ⟨o, e', d⟩ := ho p.1 hb
    rw [e] at e'; cases e'
    exact ⟨e, f0, f1, f2, d⟩
theorem Inv.unpinned {pins pl : List (Addr × Obj)} {σ : St} {H : Hp} {s : Shared} (I : Inv X (pins ++ pl) σ H s) : Inv X pins σ H s := I.pins_of fun p hp => I.pin p (List.mem_append_right _ (List.mem_append_left _ hp))
theorem ps_for {iter : Expr} {body : List Stmt} {wi : TI} {g : TG} {tb : TS} {pos : Pos} (hp : PassesOwn (model X.prog X.w) X.A X.env X.xe) (hc : X.calm = true) (hi : PI X tg iter wi) (hg : PG X tg g) (hb : PSs X body tb)
    (hs : ∀ x, foldedSetIterable iter X.env x = pure x := by intro _; rfl) : PS X (.For tg iter body [] pos) (tFor wi g tb) := by
  intro pins s σ H D I h
  refine wpAny_For (thn (hi pins s σ H _ I h) fun v s1 h1 => thn h1 fun itv s2 h2 => ?_) hs
  obtain ⟨it, fp, tn, J, H2, e, I2, T, st2, f2, W, ⟨m0, w0⟩, turn⟩ := h2
  subst e
  have stat : ∀ {H' : Hp}, (∀ b ∈ fp, H' b = none) → ∀ b ∈ fp, FpOk X pins H' b := fun hn b hb => ⟨hn b hb, (f2 b hb).2⟩
  refine codeAny_forLoop_any (fun n s' => ∃ i σ' H', Inv X pins σ' H' s' ∧ tn i s'.heap ∧ (∀ b ∈ fp, H' b = none) ∧ W i n σ' H') ?_ m0 ⟨0, σ, H2, I2, st2, fun b hb => (f2 b hb).1, w0⟩
  rintro n s3 ⟨i, σ3, H3, I3, st3, fr3, w3⟩
  rcases turn i n σ3 H3 w3 with ⟨stop, qn⟩ | ⟨go, N, hN, step⟩
  · refine wpAny_passesOwn hp (thn (T.done X rfl rfl rfl hc i pins s3 σ3 H3 X.xe I3 (stat fr3) st3 stop) fun r s4 ⟨hr, I4⟩ => ?_)
    subst hr
    exact wpAny_execs_nil ⟨σ3, H3, I4, qn⟩
  · refine wpAny_passesOwn hp (thn (T.item X rfl rfl rfl hc i pins s3 σ3 H3 X.xe I3 (stat fr3) st3 go) fun r s4 ⟨u, hr, h4⟩ => ?_)
    subst hr
    refine wpAny_passesOwn hp (thn h4 fun _ s5 ⟨x, H5, I5, r5, y5, st5, fr5⟩ => ?_)
    have I5' := I5.pinned (stat fr5) (T.obj _ _ st5)
    refine wpAny_passesOwn hp (thn (hg _ s5 σ3 H5 x u _ I5' r5 (step x H5 y5)) fun _ s6 ⟨σ6, H6, I6, q6⟩ => ?_)
    refine wpAny_passesOwn hp (thn (hb _ s6 σ6 H6 _ I6 q6) fun f s7 q7 => ?_)
    have again : ∀ {σ7 : St} {H7 : Hp}, Inv X (pins ++ pinsAt fp s5.heap) σ7 H7 s7 → N σ7 H7 → ∃ m, m < n ∧ ∃ i σ' H', Inv X pins σ' H' s7 ∧ tn i s7.heap ∧ (∀ b ∈ fp, H' b = none) ∧ W i m σ' H' := fun {σ7 H7} I7 n7 => by
      obtain ⟨m', hm, w7⟩ := hN σ7 H7 n7
      refine ⟨m', hm, i + 1, σ7, H7, I7.unpinned, T.keep _ _ _ st5 fun b hb o e => (I7.pin (b, o) (List.mem_append_right _ (List.mem_append_right _ (mem_pinsAt hb e)))).1, fun b hb => ?_, w7⟩
      obtain ⟨o, e, d⟩ := T.obj _ _ st5 b hb
      exact (I7.pin (b, o) (List.mem_append_right _ (List.mem_append_right _ (mem_pinsAt hb e)))).2.1
    cases f with
    | next => obtain ⟨σ7, H7, I7, n7⟩ := q7; exact again I7 n7
    | cont => obtain ⟨σ7, H7, I7, n7⟩ := q7; exact again I7 n7
    | brk => obtain ⟨σ7, H7, I7, q7⟩ := q7; exact ⟨σ7, H7, I7.unpinned, q7⟩
    | ret v => obtain ⟨x7, σ7, H7, I7, r7, q7⟩ := q7; exact ⟨x7, σ7, H7, I7.unpinned, r7, q7⟩
end
theorem for_list {K : PySem.W.Frag} {a : Addr} {xs : List V} {g : TG} {tb : TS} {D : Ends} {σ : St} {H : Hp} (Pv : Nat → St → Hp → Prop) (h0 : Pv 0 σ H) (hl : ∀ i σ H, i ≤ xs.length → Pv i σ H → SqL K H a xs)
    (hs : ∀ i x σ H, xs[i]? = some x → Pv i σ H → g x σ H fun σ2 H2 => tb { D with nx := Pv (i + 1), ct := Pv (i + 1), bk := D.nx } σ2 H2) (hd : ∀ σ H, Pv xs.length σ H → D.nx σ H) :
    ∃ W : Nat → Nat → St → Hp → Prop, (∃ m, W 0 m σ H) ∧ ∀ i m σ H, W i m σ H →
      ((Itl K a).stop i H ∧ D.nx σ H) ∨ ((Itl K a).go i H ∧ ∃ N : St → Hp → Prop, (∀ σ' H', N σ' H' → ∃ m', m' < m ∧ W (i + 1) m' σ' H') ∧ ∀ x H', (Itl K a).yld i H x H' → g x σ H' fun σ2 H2 => tb { D with nx := N, ct := N, bk := D.nx } σ2 H2) := by
  refine ⟨fun i m σ H => m = xs.length - i ∧ i ≤ xs.length ∧ Pv i σ H, ⟨xs.length, by simp, Nat.zero_le _, h0⟩, ?_⟩
  rintro i m σ H ⟨rfl, hi, p⟩
  have q := hl i σ H hi p
  by_cases hlt : i < xs.length
  · refine .inr ⟨⟨xs, xs[i], q, by simp [hlt]⟩, Pv (i + 1), fun σ' H' p' => ⟨xs.length - (i + 1), by omega, rfl, hlt, p'⟩, fun x H' y => ?_⟩
    obtain ⟨e, y⟩ := y
    subst e
    exact hs i x σ _ (y xs q) p
  · have e : i = xs.length := by omega
    subst e
    exact .inl ⟨⟨xs, q, Nat.le_refl _⟩, hd σ H p⟩
theorem for_range {lo : Int} {n : Nat} {g : TG} {tb : TS} {D : Ends} {σ : St} {H : Hp} (Pv : Nat → St → Hp → Prop) (h0 : Pv 0 σ H)
    (hs : ∀ i σ H, i < n → Pv i σ H → g (.int (lo + i)) σ H fun σ2 H2 => tb { D with nx := Pv (i + 1), ct := Pv (i + 1), bk := D.nx } σ2 H2) (hd : ∀ σ H, Pv n σ H → D.nx σ H) :
    ∃ W : Nat → Nat → St → Hp → Prop, (∃ m, W 0 m σ H) ∧ ∀ i m σ H, W i m σ H →
      ((Itr lo n).stop i H ∧ D.nx σ H) ∨ ((Itr lo n).go i H ∧ ∃ N : St → Hp → Prop, (∀ σ' H', N σ' H' → ∃ m', m' < m ∧ W (i + 1) m' σ' H') ∧ ∀ x H', (Itr lo n).yld i H x H' → g x σ H' fun σ2 H2 => tb { D with nx := N, ct := N, bk := D.nx } σ2 H2) := by
  refine ⟨fun i m σ H => m = n - i ∧ i ≤ n ∧ Pv i σ H, ⟨n, by simp, Nat.zero_le _, h0⟩, ?_⟩
  rintro i m σ H ⟨rfl, hi, p⟩
  by_cases hlt : i < n
  · refine .inr ⟨hlt, Pv (i + 1), fun σ' H' p' => ⟨n - (i + 1), by omega, rfl, hlt, p'⟩, fun x H' y => ?_⟩
    obtain ⟨e, y⟩ := y
    subst e y
    exact hs i σ _ hlt p
  · have e : i = n := by omega
    subst e
    exact .inl ⟨Nat.le_refl _, hd σ H p⟩
end L2
namespace L2
open PySem PySem.Spec PyProof.Rows
abbrev R2 := V → V → Hp → VK → Prop
def OpR (X : Cx) (f : Value → Value → Sem Value) (r : R2) : Prop :=
  ∀ (pins : List (Addr × Obj)) (s : Shared) (σ : St) (H : Hp) (x y : V) (v u : Value) (Q : VK), Inv X pins σ H s → RelV x v → RelV y u → r x y H Q →
    wpAny (model X.prog X.w) X.A (f v u) (EP X pins σ Q) X.xe s
def UnR (X : Cx) (f : Value → Sem Value) (r : V → Hp → VK → Prop) : Prop :=
  ∀ (pins : List (Addr × Obj)) (s : Shared) (σ : St) (H : Hp) (x : V) (v : Value) (Q : VK), Inv X pins σ H s → RelV x v → r x H Q →
    wpAny (model X.prog X.w) X.A (f v) (EP X pins σ Q) X.xe s
def CallR (X : Cx) (f : Value) (r : List V → Hp → VK → Prop) : Prop :=
  ∀ (pins : List (Addr × Obj)) (s : Shared) (σ : St) (H : Hp) (xs : List V) (us : List Value) (Q : VK), Inv X pins σ H s → Vals xs us → r xs H Q →
    wpAny (model X.prog X.w) X.A (call f us) (EP X pins σ Q) X.xe s
def tOp (r : R2) (ta tb : TE) : TE := fun σ H Q => ta σ H fun x H1 => tb σ H1 fun y H2 => r x y H2 Q
def tUn (r : V → Hp → VK → Prop) (ta : TE) : TE := fun σ H Q => ta σ H fun x H1 => r x H1 Q
def rI (C : Int → Int → Prop) (g : Int → Int → V) : R2 := fun x y H Q => ∃ i j, x = .int i ∧ y = .int j ∧ C i j ∧ Q (g i j) H
def rI0 (g : Int → Int → V) : R2 := fun x y H Q => ∃ i j, x = .int i ∧ y = .int j ∧ Q (g i j) H
def rU (g : Int → V) : V → Hp → VK → Prop := fun x H Q => ∃ i, x = .int i ∧ Q (g i) H
section
variable {X : Cx} {a b c : Expr} {ta tb tc : TE} {pos : Pos}
theorem binT (ha : PE X a ta) (hb : PE X b tb) {pins : List (Addr × Obj)} {s : Shared} {σ : St} {H : Hp} {R : V → V → Hp → Prop} (I : Inv X pins σ H s)
    (h : ta σ H fun x H1 => tb σ H1 fun y H2 => R x y H2) {Q : Value → Shared → Prop} {f : Value → Value → Sem Value}
    (hf : ∀ v u s2 x y H2, Inv X pins σ H2 s2 → RelV x v → RelV y u → R x y H2 → wpAny (model X.prog X.w) X.A (f v u) Q X.xe s2) :
    wpAny (model X.prog X.w) X.A (eval a X.env) (fun v s₁ => wpAny (model X.prog X.w) X.A (eval b X.env) (fun u s₂ => wpAny (model X.prog X.w) X.A (f v u) Q X.xe s₂) X.xe s₁) X.xe s := by
  refine thn (ha pins s σ H _ I h) fun v s1 ⟨x, H1, I1, r1, q1⟩ => ?_
  refine thn (hb pins s1 σ H1 _ I1 q1) fun u s2 ⟨y, H2, I2, r2, q2⟩ => ?_
  exact hf v u s2 x y H2 I2 r1 r2 q2
theorem pe_op {op : Operator} {r : R2} (ho : OpR X (binaryOp op) r) (ha : PE X a ta) (hb : PE X b tb) : PE X (.BinOp a op b pos) (tOp r ta tb) := by
  intro pins s σ H Q I h
  exact wpAny_BinOp (binT ha hb I h fun v u s2 x y H2 I2 rx ry q => ho pins s2 σ H2 x y v u Q I2 rx ry q)
theorem pe_un {op : UnaryOp} {r : V → Hp → VK → Prop} (ho : UnR X (unaryOp op) r) (ha : PE X a ta) : PE X (.UnaryOp op a pos) (tUn r ta) := by
  intro pins s σ H Q I h
  exact UnaryOp_ (thn (ha pins s σ H _ I h) fun v s1 ⟨x, H1, I1, r1, q1⟩ => ho pins s1 σ H1 x v Q I1 r1 q1)
theorem opI {f : Value → Value → Sem Value} {C : Int → Int → Prop} {g : Int → Int → Int}
    (rule : ∀ (i j : Int) (t u : Tok) (s : Shared) (Q : Value → Shared → Prop) (E : Value → Shared → Prop), C i j → Q (.int (g i j) s.toks) { s with toks := s.toks + 1 } → wpAny (model X.prog X.w) X.A (f (.int i t) (.int j u)) Q E s) :
    OpR X f (rI C fun i j => .int (g i j)) := by
  intro pins s σ H x y v u Q I rx ry h
  obtain ⟨i, j, rfl, rfl, hc, q⟩ := h
  obtain ⟨t, rfl⟩ := rx
  obtain ⟨t', rfl⟩ := ry
  exact rule i j t t' s _ _ hc ⟨.int (g i j), H, I.tok _, ⟨_, rfl⟩, q⟩
theorem opI0 {f : Value → Value → Sem Value} {g : Int → Int → Int}
    (rule : ∀ (i j : Int) (t u : Tok) (s : Shared) (Q : Value → Shared → Prop) (E : Value → Shared → Prop), Q (.int (g i j) s.toks) { s with toks := s.toks + 1 } → wpAny (model X.prog X.w) X.A (f (.int i t) (.int j u)) Q E s) :
    OpR X f (rI0 fun i j => .int (g i j)) := by
  intro pins s σ H x y v u Q I rx ry h
  obtain ⟨i, j, rfl, rfl, q⟩ := h
  obtain ⟨t, rfl⟩ := rx
  obtain ⟨t', rfl⟩ := ry
  exact rule i j t t' s _ _ ⟨.int (g i j), H, I.tok _, ⟨_, rfl⟩, q⟩
theorem opB0 {f : Value → Value → Sem Value} {g : Int → Int → Bool}
    (rule : ∀ (i j : Int) (t u : Tok) (s : Shared) (Q : Value → Shared → Prop) (E : Value → Shared → Prop), Q (.bool (g i j)) s → wpAny (model X.prog X.w) X.A (f (.int i t) (.int j u)) Q E s) :
    OpR X f (rI0 fun i j => .bl (g i j)) := by
  intro pins s σ H x y v u Q I rx ry h
  obtain ⟨i, j, rfl, rfl, q⟩ := h
  obtain ⟨t, rfl⟩ := rx
  obtain ⟨t', rfl⟩ := ry
  exact rule i j t t' s _ _ ⟨.bl (g i j), H, I, rfl, q⟩
def CPow (i j : Int) : Prop := 0 ≤ j ∧ j ≤ 1000000 ∧ i.natAbs < 2 ^ 64
def CMul (i j : Int) : Prop := (-(2 ^ 64) < i ∧ i < 2 ^ 64) ∨ (-(2 ^ 64) < j ∧ j < 2 ^ 64)
theorem CMul.ok {i j : Int} (h : CMul i j) : IntMulOk i j := by
  rcases h with ⟨h1, h2⟩ | ⟨h1, h2⟩
  · exact .of_left (intBits_le_64 h1 h2)
  · exact .of_right (intBits_le_64 h1 h2)
theorem op_add : OpR X (binaryOp .Add) (rI0 fun i j => .int (i + j)) := opI0 fun _ _ _ _ _ _ _ q => add_int q
theorem op_sub : OpR X (binaryOp .Sub) (rI0 fun i j => .int (i - j)) := opI0 fun _ _ _ _ _ _ _ q => sub_int q
theorem op_mod : OpR X (binaryOp .Mod) (rI (fun _ j => 0 < j) fun i j => .int (i % j)) := opI fun i j _ _ _ _ _ hc q => by
  have h1 : (0 : Int) < j := hc
  exact mod_int' (by omega) (by rw [Int.fmod_eq_emod_of_nonneg i (by omega)]; exact q)
theorem op_modN : OpR X (binaryOp .Mod) (rI (fun _ j => j ≠ 0) fun i j => .int (i.fmod j)) := opI fun _ _ _ _ _ _ _ hc q => mod_int' hc q
theorem op_pow : OpR X (binaryOp .Pow) (rI CPow fun i j => .int (i ^ j.toNat)) := opI fun _ _ _ _ _ _ _ hc q => pow_int_small hc.1 hc.2.1 hc.2.2 q
theorem unI {f : Value → Sem Value} {g : Int → Int}
    (rule : ∀ (i : Int) (t : Tok) (s : Shared) (Q : Value → Shared → Prop) (E : Value → Shared → Prop), Q (.int (g i) s.toks) { s with toks := s.toks + 1 } → wpAny (model X.prog X.w) X.A (f (.int i t)) Q E s) :
    UnR X f (rU fun i => .int (g i)) := by
  intro pins s σ H x v Q I rx h
  obtain ⟨i, rfl, q⟩ := h
  obtain ⟨t, rfl⟩ := rx
  exact rule i t s _ _ ⟨.int (g i), H, I.tok _, ⟨_, rfl⟩, q⟩
theorem un_neg : UnR X (unaryOp .USub) (rU fun i => .int (-i)) := unI fun _ _ _ _ _ q => neg_int q
end
def scal : V → V → Bool
  | .non, .non => true | .non, .int _ => true | .int _, .non => true | .non, .bl _ => true | .bl _, .non => true | .non, .str _ => true | .str _, .non => true
  | .int _, .int _ => true | .bl _, .bl _ => true | .str _, .str _ => true | .byt _, .byt _ => true
  | .int _, .str _ => true | .str _, .int _ => true | .bl _, .str _ => true | .str _, .bl _ => true
  | _, _ => false
def rEq : R2 := fun x y H Q => scal x y = true ∧ Q (.bl (decide (x = y))) H
def rNe : R2 := fun x y H Q => scal x y = true ∧ Q (.bl (!decide (x = y))) H
theorem dec_int {i j : Int} : decide (V.int i = V.int j) = (i == j) := by
  rw [Bool.eq_iff_iff]
  simp
theorem dec_bl {i j : Bool} : decide (V.bl i = V.bl j) = (i == j) := by
  rw [Bool.eq_iff_iff]
  simp
theorem dec_str {i j : Str} : decide (V.str i = V.str j) = (i == j) := by
  rw [Bool.eq_iff_iff]
  simp
theorem dec_byt {i j : Array UInt8} : decide (V.byt i = V.byt j) = (i.toList == j.toList) := by
  rw [Bool.eq_iff_iff]
  cases i
  cases j
  simp
section
variable {X : Cx} {a b c : Expr} {ta tb tc : TE} {pos : Pos}
theorem fin_bl {pins : List (Addr × Obj)} {σ : St} {H : Hp} {s : Shared} {Q : VK} {k k' : Bool} (I : Inv X pins σ H s) (q : Q (.bl k) H) (e : k = k') : EP X pins σ Q (.bool k') s := by
  subst e
  exact ⟨.bl k, H, I, rfl, q⟩
theorem op_eq : OpR X (compareOp .Eq) rEq := by
  intro pins s σ H x y v u Q I rx ry h
  obtain ⟨hs, q⟩ := h
  cases x with
  | non =>
    cases rx
    cases y with
    | non => cases ry; exact PySem.EqNone.eq_none_none (fin_bl I q (by simp))
    | bl j => cases ry; exact PySem.EqNone.eq_none_bool (fin_bl I q (by simp))
    | int j => obtain ⟨t', rfl⟩ := ry; exact PySem.EqNone.eq_none_int (fin_bl I q (by simp))
    | str j => obtain ⟨t', rfl⟩ := ry; exact PySem.EqNone.eq_none_str (fin_bl I q (by simp))
    | _ => exact absurd (show false = true from hs) Bool.false_ne_true
  | bl i =>
    cases rx
    cases y with
    | non => cases ry; exact PySem.EqNone.eq_bool_none (fin_bl I q (by simp))
    | bl j => cases ry; exact eq_bool (fin_bl I q dec_bl)
    | str j => obtain ⟨t', rfl⟩ := ry; exact PySem.EqMixed.eq_bool_str (fin_bl I q (by simp))
    | _ => exact absurd (show false = true from hs) Bool.false_ne_true
  | int i =>
    obtain ⟨t, rfl⟩ := rx
    cases y with
    | non => cases ry; exact PySem.EqNone.eq_int_none (fin_bl I q (by simp))
    | int j => obtain ⟨t', rfl⟩ := ry; exact eq_int (fin_bl I q dec_int)
    | str j => obtain ⟨t', rfl⟩ := ry; exact PySem.EqMixed.eq_int_str (fin_bl I q (by simp))
    | _ => exact absurd (show false = true from hs) Bool.false_ne_true
  | str i =>
    obtain ⟨t, rfl⟩ := rx
    cases y with
    | non => cases ry; exact PySem.EqNone.eq_str_none (fin_bl I q (by simp))
    | bl j => cases ry; exact PySem.EqMixed.eq_str_bool (fin_bl I q (by simp))
    | int j => obtain ⟨t', rfl⟩ := ry; exact PySem.EqMixed.eq_str_int (fin_bl I q (by simp))
    | str j => obtain ⟨t', rfl⟩ := ry; exact eq_str (fin_bl I q dec_str)
    | _ => exact absurd (show false = true from hs) Bool.false_ne_true
  | byt i =>
    obtain ⟨t, rfl⟩ := rx
    cases y with
    | byt j => obtain ⟨t', rfl⟩ := ry; exact PySem.W.eq_bytes (fin_bl I q dec_byt)
    | _ => exact absurd (show false = true from hs) Bool.false_ne_true
  | _ => cases y <;> exact absurd (show false = true from hs) Bool.false_ne_true
theorem op_ne : OpR X (compareOp .NotEq) rNe := by
  intro pins s σ H x y v u Q I rx ry h
  obtain ⟨hs, q⟩ := h
  cases x with
  | non =>
    cases rx
    cases y with
    | non => cases ry; exact PySem.EqNone.ne_none_none (fin_bl I q (by simp))
    | bl j => cases ry; exact PySem.EqNone.ne_none_bool (fin_bl I q (by simp))
    | int j => obtain ⟨t', rfl⟩ := ry; exact PySem.EqNone.ne_none_int (fin_bl I q (by simp))
    | str j => obtain ⟨t', rfl⟩ := ry; exact PySem.EqNone.ne_none_str (fin_bl I q (by simp))
    | _ => exact absurd (show false = true from hs) Bool.false_ne_true
  | bl i =>
    cases rx
    cases y with
    | non => cases ry; exact PySem.EqNone.ne_bool_none (fin_bl I q (by simp))
    | bl j => cases ry; exact ne_bool (fin_bl I q (congrArg not dec_bl))
    | str j => obtain ⟨t', rfl⟩ := ry; exact PySem.EqMixed.ne_bool_str (fin_bl I q (by simp))
    | _ => exact absurd (show false = true from hs) Bool.false_ne_true
  | int i =>
    obtain ⟨t, rfl⟩ := rx
    cases y with
    | non => cases ry; exact PySem.EqNone.ne_int_none (fin_bl I q (by simp))
    | int j => obtain ⟨t', rfl⟩ := ry; exact ne_int (fin_bl I q (congrArg not dec_int))
    | str j => obtain ⟨t', rfl⟩ := ry; exact PySem.EqMixed.ne_int_str (fin_bl I q (by simp))
    | _ => exact absurd (show false = true from hs) Bool.false_ne_true
  | str i =>
    obtain ⟨t, rfl⟩ := rx
    cases y with
    | non => cases ry; exact PySem.EqNone.ne_str_none (fin_bl I q (by simp))
    | bl j => cases ry; exact PySem.EqMixed.ne_str_bool (fin_bl I q (by simp))
    | int j => obtain ⟨t', rfl⟩ := ry; exact PySem.EqMixed.ne_str_int (fin_bl I q (by simp))
    | str j => obtain ⟨t', rfl⟩ := ry; exact ne_str (fin_bl I q (congrArg not dec_str))
    | _ => exact absurd (show false = true from hs) Bool.false_ne_true
  | byt i =>
    obtain ⟨t, rfl⟩ := rx
    cases y with
    | byt j => obtain ⟨t', rfl⟩ := ry; exact PySem.W.ne_bytes (fin_bl I q (congrArg not dec_byt))
    | _ => exact absurd (show false = true from hs) Bool.false_ne_true
  | _ => cases y <;> exact absurd (show false = true from hs) Bool.false_ne_true
theorem op_lt : OpR X (compareOp .Lt) (rI0 fun i j => .bl (decide (i < j))) := opB0 fun _ _ _ _ _ _ _ q => lt_int q
theorem op_le : OpR X (compareOp .LtE) (rI0 fun i j => .bl (decide (i ≤ j))) := opB0 fun _ _ _ _ _ _ _ q => le_int q
theorem op_gt : OpR X (compareOp .Gt) (rI0 fun i j => .bl (decide (j < i))) := opB0 fun _ _ _ _ _ _ _ q => gt_int q
theorem nomark (b : Expr) {op : CmpOp} (h : op ≠ .In := by decide) (h2 : op ≠ .NotIn := by decide) : behindInMarks op b = false := by
  have e1 : (op == CmpOp.In) = false := by cases op <;> first | rfl | exact absurd rfl h
  have e2 : (op == CmpOp.NotIn) = false := by cases op <;> first | rfl | exact absurd rfl h2
  cases b <;> simp [behindInMarks, e1, e2]
theorem pe_cmpR {op : CmpOp} {r : R2} (ho : OpR X (compareOp op) r) (ha : PE X a ta) (hb : PE X b tb) (hm : behindInMarks op b = false) : PE X (.Compare a [op] [b] pos) (tOp r ta tb) := by
  intro pins s σ H Q I h
  exact wpAny_Compare1 (binT ha hb I h fun v u s2 x y H2 I2 rx ry q => ho pins s2 σ H2 x y v u Q I2 rx ry q) hm
def tTest (t : TE) : TT := fun σ H Q => t σ H fun x H' => ∃ k, x = .bl k ∧ Q k H'
theorem pt_cmpR {op : CmpOp} {r : R2} (ho : OpR X (compareOp op) r) (ha : PE X a ta) (hb : PE X b tb) (hm : behindInMarks op b = false) : PT X (.Compare a [op] [b] pos) (tTest (tOp r ta tb)) := by
  intro pins s σ H Q I h
  refine wpAny_isTrue_Compare1 (thn (ha pins s σ H _ I h) fun v s1 ⟨x, H1, I1, r1, q1⟩ => thn (hb pins s1 σ H1 _ I1 q1) fun u s2 ⟨y, H2, I2, r2, q2⟩ =>
    thn (ho pins s2 σ H2 x y v u _ I2 r1 r2 q2) fun c s3 ⟨z, H3, I3, r3, k, e, q3⟩ => ?_) hm
  subst e
  cases r3
  exact wpAny_truthy_bool ⟨H3, I3, q3⟩
def tChain (r r' : R2) (ta tb tc : TE) : TE := fun σ H Q => ta σ H fun x H1 => tb σ H1 fun y H2 => r x y H2 fun z H3 => ∃ k, z = .bl k ∧
  (if k = true then tc σ H3 fun w' H4 => r' y w' H4 Q else Q (.bl false) H3)
theorem pe_chain {op op' : CmpOp} {r r' : R2} (ho : OpR X (compareOp op) r) (ho' : OpR X (compareOp op') r') (ha : PE X a ta) (hb : PE X b tb) (hc : PE X c tc)
    (hm : lastMarks [op, op'] [b, c] = false := by with_unfolding_all rfl) : PE X (.Compare a [op, op'] [b, c] pos) (tChain r r' ta tb tc) := by
  intro pins s σ H Q I h
  refine Compare_chain (thn (ha pins s σ H _ I h) fun v s1 ⟨x, H1, I1, r1, q1⟩ => chain_link (thn (hb pins s1 σ H1 _ I1 q1) fun u s2 ⟨y, H2, I2, r2, q2⟩ =>
    thn (ho pins s2 σ H2 x y v u _ I2 r1 r2 q2) fun d s3 ⟨z, H3, I3, r3, k, e, q3⟩ => ?_)) hm
  subst e
  cases r3
  refine wpAny_truthy_bool ?_
  cases k with
  | false => exact ite_ff ⟨.bl false, H3, I3, rfl, q3⟩
  | true => exact ite_tt (chain_last (thn (hc pins s3 σ H3 _ I3 q3) fun w' s4 ⟨z', H4, I4, r4, q4⟩ => ho' pins s4 σ H4 y z' u w' Q I4 r2 r4 q4))
theorem pt_chain {op op' : CmpOp} {r r' : R2} (ho : OpR X (compareOp op) r) (ho' : OpR X (compareOp op') r') (ha : PE X a ta) (hb : PE X b tb) (hc : PE X c tc)
    (hm : lastMarks [op, op'] [b, c] = false := by with_unfolding_all rfl) : PT X (.Compare a [op, op'] [b, c] pos) (tTest (tChain r r' ta tb tc)) := by
  intro pins s σ H Q I h
  refine isTrue_chain (thn (ha pins s σ H _ I h) fun v s1 ⟨x, H1, I1, r1, q1⟩ => test_link (thn (hb pins s1 σ H1 _ I1 q1) fun u s2 ⟨y, H2, I2, r2, q2⟩ =>
    thn (ho pins s2 σ H2 x y v u _ I2 r1 r2 q2) fun d s3 ⟨z, H3, I3, r3, k, e, q3⟩ => ?_)) hm
  subst e
  cases r3
  refine wpAny_truthy_bool ?_
  cases k with
  | false =>
    obtain ⟨k', e', q'⟩ := q3
    cases e'
    exact ite_ff ⟨H3, I3, q'⟩
  | true =>
    refine ite_tt (test_last (thn (hc pins s3 σ H3 _ I3 q3) fun w' s4 ⟨z', H4, I4, r4, q4⟩ => thn (ho' pins s4 σ H4 y z' u w' _ I4 r2 r4 q4) fun d' s5 ⟨z2, H5, I5, r5, k2, e2, q5⟩ => ?_))
    subst e2
    cases r5
    exact wpAny_truthy_bool ⟨H5, I5, q5⟩
theorem line63 : (sizeLine : Nat) < 2 ^ 63 := by rw [sizeLine_eq]; decide
theorem op_add_str : OpR X (binaryOp .Add) (fun x y H Q => ∃ i j, x = .str i ∧ y = .str j ∧ i.length + j.length ≤ sizeLine ∧ Q (.str (i ++ j)) H) := by
  intro pins s σ H x y v u Q I rx ry h
  obtain ⟨i, j, rfl, rfl, hz, q⟩ := h
  obtain ⟨t, rfl⟩ := rx
  obtain ⟨t', rfl⟩ := ry
  exact add_str (fun t' tk => ⟨.str (i ++ j), H, I.tok _, ⟨_, rfl⟩, q⟩) hz
theorem vals1 {x : V} {us : List Value} (r : Vals [x] us) : ∃ u, us = [u] ∧ RelV x u := by
  cases r with
  | cons r1 r2 => cases r2; exact ⟨_, rfl, r1⟩
theorem vals2 {x y : V} {us : List Value} (r : Vals [x, y] us) : ∃ u w', us = [u, w'] ∧ RelV x u ∧ RelV y w' := by
  cases r with
  | cons r1 r2 =>
    cases r2 with
    | cons r3 r4 => cases r4; exact ⟨_, _, rfl, r1, r3⟩
theorem call_abs : CallR X (.builtin "abs") (fun xs H Q => ∃ i, xs = [.int i] ∧ Q (.int (if i < 0 then -i else i)) H) := by
  intro pins s σ H xs us Q I r h
  obtain ⟨i, rfl, q⟩ := h
  obtain ⟨u, rfl, t, rfl⟩ := vals1 r
  exact call_abs_int fun u tk => ⟨.int (if i < 0 then -i else i), H, I.tok _, ⟨_, rfl⟩, q⟩
theorem call_min2 (hc : X.calm = true) : CallR X (.builtin "min") (fun xs H Q => ∃ i j, xs = [.int i, .int j] ∧ Q (.int (if j < i then j else i)) H) := by
  intro pins s σ H xs us Q I r h
  obtain ⟨i, j, rfl, q⟩ := h
  obtain ⟨u, w', rfl, ⟨t, rfl⟩, ⟨t', rfl⟩⟩ := vals2 r
  refine min_two_ints (I.ok.hd hc) fun h' tk k => ⟨_, H, I.kept k, ?_, q⟩
  by_cases hj : j < i
  · rw [if_pos hj, if_pos hj]; exact ⟨_, rfl⟩
  · rw [if_neg hj, if_neg hj]; exact ⟨_, rfl⟩
end
end L2
namespace L2
open PySem PySem.Spec PyProof.Rows
structure ObjM (h : Heap) (x dx C : Addr) (mA : Str → Option Value) : Prop where
  obj : h.get? x = some (PySem.W.instObj C dx)
  ns : h.Ns1 dx mA
  ne : dx ≠ x
theorem lookIn_ns {h : Heap} {dx : Addr} {mA : Str → Option Value} (n : h.Ns1 dx mA) : ∃ od, h.get? dx = some od ∧ ∀ name, PySem.W.lookIn name od = some (mA name) := by
  obtain ⟨o, es, ep, ho, hd, hk, _, hm⟩ := n
  refine ⟨o, ho, fun name => ?_⟩
  have e := hm name
  unfold nsFind findBy at e
  rw [← Array.find?_toList] at e
  unfold PySem.W.lookIn
  rw [hd]
  dsimp only
  split
  · rename_i y q
    rw [q] at e
    exact congrArg some e
  · rename_i q
    rw [q] at e
    have a : es.toList.any (·.refKey) = false := by
      rw [List.any_eq_false]
      intro y hy
      obtain ⟨z, t, hkey⟩ := hk y (Array.mem_toList_iff.mp hy)
      simp [DictEntry.refKey, hkey]
    have a' : ¬ es.toList.any (·.refKey) = true := by rw [a]; exact Bool.false_ne_true
    rw [if_neg a']
    exact congrArg some e
theorem ObjM.look {h : Heap} {x dx C : Addr} {mA : Str → Option Value} (I : ObjM h x dx C mA) : ∃ od, PySem.W.InstAt h x (PySem.W.instObj C dx) C (some od) ∧ ∀ name, PySem.W.lookIn name od = some (mA name) :=
  let ⟨od, ho, hl⟩ := lookIn_ns I.ns
  ⟨od, ⟨I.obj, rfl, rfl, ho⟩, hl⟩
section
variable {prog : Program} {w : World} {A : Around} {E : Value → Shared → Prop} {s : Shared} {K : PySem.W.Frag} {x dx C f : Addr} {mA : Str → Option Value} {name : Str} {v : Value}
theorem get_map {expr : Bool} {Q : Value → Shared → Prop} (X : K.In s.heap) (I : ObjM s.heap x dx C mA) (hg : PySem.W.plainGet K C name = true) (hh : PySem.W.hasDictIn K C = true)
    (ha : PySem.W.findIn K (.ref C) name = some none) (hv : mA name = some v) (hv' : PySem.W.handedIn v = true) (h : Q v { s with toks := s.toks + 1 }) :
    wpAny (model prog w) A (getAttr (.ref x) name expr) Q E s := by
  obtain ⟨od, J, hl⟩ := I.look
  exact PySem.W.get_value X J (PySem.W.plainGet_of hg).1 (PySem.W.findObj_own hh ha rfl (by rw [hl, hv])) hv' h
theorem get_meth {pl : Sem Bool} {Q : Value × List Value → Shared → Prop} (X : K.In s.heap) (I : ObjM s.heap x dx C mA) (hg : PySem.W.plainGet K C name = true)
    (hf : PySem.W.findIn K (.ref C) name = some (some (.ref f))) (ht : PySem.W.isFn K (.ref f) = true) (hv : mA name = none) (h : Q (.ref f, [.ref x]) s) :
    wpAny (model prog w) A (getMethod (.ref x) name pl) Q E s := by
  obtain ⟨od, J, hl⟩ := I.look
  exact PySem.W.method_fn X J (PySem.W.plainGet_of hg).1 (PySem.W.plainGet_of hg).2 hf (beq_iff_eq.mp ht) (by show (PySem.W.lookIn name od).map (·.isSome) = some false; rw [hl, hv]; rfl) h
theorem set_map {ns : List Str} {Q : Unit → Shared → Prop} (X : K.In s.heap) (I : ObjM s.heap x dx C mA)
    (hs : PySem.W.findIn K (.ref C) "__setattr__" = some (some (.builtin "object.__setattr__"))) (hp : PySem.W.plainOver K C = true) (ht : PySem.W.takerIn K C name = some none) (hh : PySem.W.hasDictIn K C = true)
    (hw : PySem.Within mA ns) (hsz : ns.length ≤ sizeLine)
    (h : ∀ h', ObjM h' x dx C (fun y => if y = name then some v else mA y) → Heap.SameBut dx s.heap h' → Q () { s with heap := h', toks := s.toks + 2 }) :
    wpAny (model prog w) A (setAttr (.ref x) name v) Q E s := by
  obtain ⟨od, J, hl⟩ := I.look
  refine PySem.W.set_plain X J hs (PySem.W.osa_open (s := { s with toks := s.toks + 1 }) (r := none) X J hp ht fun b => ?_)
  obtain ⟨cd, hc, hd'⟩ := PySem.W.any_some hh
  have hx : s.heap.get? x = some ⟨.ref C, some dx, .plain, #[]⟩ := I.obj
  refine wpAny_bind (wpAny_pure (wpAny_bind (wpAny_bind (wpAny_loadPart hx (wpAny_bind (PySem.W.Looks.here (s := { s with toks := s.toks + 1 }) (PySem.W.looks_clsIn X hc) ?_))))))
  rw [hd']
  refine wpAny_pure (a := some dx) (wpAny_bind (wpAny_pure (wpAny_bind ?_)))
  refine wpAny_nsSet1 (s := { s with toks := s.toks + 1 }) I.ns fun h' hn2 hs2 => ?_
  obtain ⟨oD, esD, epD, hoD, hdD, hcD⟩ := hn2.count (PySem.Within.cons name v hw)
  refine wpAny_bind (wpAny_lookBehind hoD (by rw [hdD]; exact pastItsLine_dict (Nat.le_trans hcD (by rw [List.length_cons]; omega))) ?_)
  exact wpAny_pure (h _ ⟨(hs2.2 _ (Ne.symm I.ne)).trans I.obj, hn2, I.ne⟩ hs2)
theorem make_map {R : Result → Shared → Prop} {vs : List Value} {kw : List (Str × Value)} (X : K.In s.heap) (hm : PySem.W.makesIn K C = true)
    (hi : PySem.W.findIn K (.ref C) "__init__" = some (some (.ref f))) (hf : PySem.W.typeIn K (.ref f) = some (.type "function"))
    (h : codeAny (model prog w) (A.under (.builtin "type.__call__" ⟨.ref C :: vs, kw⟩)) (.call (.ref f) ⟨.ref (s.heap.objs.size + 1) :: vs, kw⟩) (PySem.W.InitBack (s.heap.objs.size + 1) R)
      { s with heap := (s.heap.push PySem.W.emptyDict).push (PySem.W.instObj C s.heap.objs.size) }) :
    codeAny (model prog w) A (.call (.ref C) ⟨vs, kw⟩) R s := by
  obtain ⟨hh, g, d, t, os⟩ := s
  exact PySem.W.make_core (PySem.W.makes_of X hm) (PySem.W.looks_findIn X hi) (fun self => PySem.W.bind_fn X self hf) (.inl rfl) h
end
def putF (f : Str) (v : V) : List (Str × V) → List (Str × V)
  | [] => [(f, v)]
  | (g, x) :: r => if g = f then (g, v) :: r else (g, x) :: putF f v r
theorem lookup_putF (f g : Str) (v : V) : ∀ fs : List (Str × V), (putF f v fs).lookup g = if g = f then some v else fs.lookup g
  | [] => by
    show List.lookup g [(f, v)] = _
    by_cases h : g = f
    · have hb : (g == f) = true := beq_iff_eq.mpr h
      simp only [List.lookup, hb, if_pos h]
    · have hb : (g == f) = false := beq_eq_false_iff_ne.mpr h
      simp only [List.lookup, hb, if_neg h]
  | (k, x) :: r => by
    have ih := lookup_putF f g v r
    rw [show putF f v ((k, x) :: r) = (if k = f then (k, v) :: r else (k, x) :: putF f v r) from rfl]
    by_cases hk : k = f
    · rw [if_pos hk]
      by_cases h : g = k
      · have hb : (g == k) = true := beq_iff_eq.mpr h
        simp only [List.lookup, hb, if_pos (h.trans hk)]
      · have hb : (g == k) = false := beq_eq_false_iff_ne.mpr h
        simp only [List.lookup, hb, if_neg (fun e : g = f => h (e.trans hk.symm))]
    · rw [if_neg hk]
      by_cases h : g = k
      · have hb : (g == k) = true := beq_iff_eq.mpr h
        simp only [List.lookup, hb, if_neg (fun e : g = f => hk (h.symm.trans e))]
      · have hb : (g == k) = false := beq_eq_false_iff_ne.mpr h
        simp only [List.lookup, hb]
        exact ih
theorem keys_putF (f : Str) (v : V) : ∀ fs : List (Str × V), f ∈ (putF f v fs).map (·.1) ∧ ∀ g, g ∈ fs.map (·.1) → g ∈ (putF f v fs).map (·.1)
  | [] => ⟨by simp [putF], fun g h => by simp at h⟩
  | (k, x) :: r => by
    obtain ⟨i1, i2⟩ := keys_putF f v r
    rw [show putF f v ((k, x) :: r) = (if k = f then (k, v) :: r else (k, x) :: putF f v r) from rfl]
    by_cases hk : k = f
    · rw [if_pos hk]
      subst hk
      exact ⟨by simp, fun g h => by simpa using h⟩
    · rw [if_neg hk]
      refine ⟨?_, fun g h => ?_⟩
      · rw [List.map_cons]
        exact List.mem_cons_of_mem _ i1
      · rw [List.map_cons] at h ⊢
        rcases List.mem_cons.mp h with e | e
        · exact List.mem_cons.mpr (.inl e)
        · exact List.mem_cons_of_mem _ (i2 g e)
theorem length_putF (f : Str) (v : V) : ∀ fs : List (Str × V), (putF f v fs).length ≤ fs.length + 1
  | [] => by simp [putF]
  | (k, x) :: r => by
    have ih := length_putF f v r
    rw [show putF f v ((k, x) :: r) = (if k = f then (k, v) :: r else (k, x) :: putF f v r) from rfl]
    by_cases hk : k = f
    · rw [if_pos hk, List.length_cons, List.length_cons]; omega
    · rw [if_neg hk, List.length_cons, List.length_cons]; omega
theorem RelO.some_of {v : V} {o : Option Value} (r : RelO (some v) o) : ∃ u, o = some u ∧ RelV v u := by
  cases o with
  | none => exact (show False from r).elim
  | some u => exact ⟨u, rfl, r⟩
theorem RelO.none_of {o : Option Value} (r : RelO none o) : o = none := by
  cases o with
  | none => rfl
  | some u => exact (show False from r).elim
theorem handed_of {v : V} {u : Value} (r : RelV v u) : PySem.W.handedIn u = true := by
  cases v with
  | non => cases (show u = Value.none from r); rfl
  | bl b => cases (show u = Value.bool b from r); rfl
  | int i => obtain ⟨t, e⟩ := (show ∃ t, u = Value.int i t from r); cases e; rfl
  | str x => obtain ⟨t, e⟩ := (show ∃ t, u = Value.str x t from r); cases e; rfl
  | byt b => obtain ⟨t, e⟩ := (show ∃ t, u = Value.bytes b t from r); cases e; rfl
  | flt b => obtain ⟨t, e⟩ := (show ∃ t, u = Value.float b t from r); cases e; rfl
  | ref a => cases (show u = Value.ref a from r); rfl
  | ty n => cases (show u = Value.type n from r); rfl
section
variable {P : Program} {w : World} {H H' : Hp} {h h' : Heap} {a C dx : Addr} {fs fs' : List (Str × V)}
theorem ins_get (hok : HOk P w H h) (e : H a = some (.ins C dx fs)) : ∃ mA, ObjM h a dx C mA ∧ (∀ f, RelO (fs.lookup f) (mA f)) ∧ PySem.Within mA (fs.map (·.1)) ∧ fs.length ≤ 1000 ∧ H dx = some (.own a) := by
  obtain ⟨d, z, ne, ob, mA, n, r, q⟩ := (show ObjOk P w H h a (.ins C dx fs) from hok a _ e)
  exact ⟨mA, ⟨ob, n, ne⟩, r, q, z, d⟩
end
structure Cls (K : PySem.W.Frag) (C : Addr) : Prop where
  pg : PySem.W.plainGet K C Str.empty = true
  hd : PySem.W.hasDictIn K C = true
  po : PySem.W.plainOver K C = true
  sa : PySem.W.findIn K (.ref C) "__setattr__" = some (some (.builtin "object.__setattr__"))
theorem Cls.get {K : PySem.W.Frag} {C : Addr} (c : Cls K C) (f : Str) : PySem.W.plainGet K C f = true := c.pg
def NoAttr (K : PySem.W.Frag) (C : Addr) (f : Str) : Prop := PySem.W.findIn K (.ref C) f = some none
theorem NoAttr.taker {K : PySem.W.Frag} {C : Addr} {f : Str} (n : NoAttr K C f) : PySem.W.takerIn K C f = some none := by
  unfold PySem.W.takerIn
  rw [show PySem.W.findIn K (.ref C) f = some none from n]
  rfl
structure Con (K : PySem.W.Frag) (C : Addr) (f : Str) (v : V) (u : Value) : Prop where
  at_ : PySem.W.findIn K (.ref C) f = some (some u)
  rel : RelV v u
  get : PySem.W.specialIn K u "__get__" = some none
  cp : PySem.W.copiedNames.contains f = false
structure Meth (K : PySem.W.Frag) (C : Addr) (m : Str) (f : Addr) : Prop where
  at_ : PySem.W.findIn K (.ref C) m = some (some (.ref f))
  fn : PySem.W.isFn K (.ref f) = true
  kp : PySem.W.keepIn K (.ref f) = true
section
variable {X : Cx} {pins : List (Addr × Obj)} {σ : St} {H : Hp} {s : Shared} {a C dx : Addr} {fs : List (Str × V)} {f : Str} {v : V} {A : Around} {E : Value → Shared → Prop}
theorem getattr_ok {b : Bool} {Q : Value → Shared → Prop} (I : Inv X pins σ H s) (e : H a = some (.ins C dx fs)) (c : Cls X.K C) (n : NoAttr X.K C f) (l : fs.lookup f = some v)
    (h : ∀ u s', Inv X pins σ H s' → RelV v u → Q u s') : wpAny (model X.prog X.w) A (getAttr (.ref a) f b) Q E s := by
  obtain ⟨mA, O, r, _, _, _⟩ := ins_get I.hok e
  obtain ⟨u, hu, ru⟩ := RelO.some_of (v := v) (o := mA f) (by rw [← l]; exact r f)
  exact get_map I.kIn O (c.get f) c.hd n hu (handed_of ru) (h u _ (I.tok _) ru)
theorem getmeth_ok {m : Str} {g : Addr} {pl : Sem Bool} {Q : Value × List Value → Shared → Prop} (I : Inv X pins σ H s) (e : H a = some (.ins C dx fs)) (c : Cls X.K C) (k : Meth X.K C m g) (l : fs.lookup m = none)
    (h : Q (.ref g, [.ref a]) s) : wpAny (model X.prog X.w) A (getMethod (.ref a) m pl) Q E s := by
  obtain ⟨mA, O, r, _, _, _⟩ := ins_get I.hok e
  have hn : mA m = none := RelO.none_of (by rw [← l]; exact r m)
  exact get_meth I.kIn O (c.get m) k.at_ k.fn hn h
theorem setattr_ok {y : V} {u : Value} {Q : Unit → Shared → Prop} (I : Inv X pins σ H s) (e : H a = some (.ins C dx fs)) (c : Cls X.K C) (n : NoAttr X.K C f) (hl : fs.length < 1000) (ry : RelV y u)
    (h : ∀ s', Inv X pins σ (upd H a (.ins C dx (putF f y fs))) s' → Q () s') : wpAny (model X.prog X.w) A (setAttr (.ref a) f u) Q E s := by
  obtain ⟨mA, O, r, wi, _, ho⟩ := ins_get I.hok e
  have hz : (fs.map (·.1)).length ≤ sizeLine := by rw [List.length_map, sizeLine_eq]; omega
  refine set_map I.kIn O c.sa c.po n.taker c.hd wi hz fun h' O' sb => h _ ?_
  have hd : ∃ o, h'.get? dx = some o := let ⟨o, _, _, e', _⟩ := O'.ns; ⟨o, e'⟩
  refine I.write (x := a) (e := dx) (by rw [e]; exact True.intro) (.inr ho) (fun b q hb z => (sb.2 b hb).trans z) hd ?_
  refine ⟨by rw [upd_ne O.ne]; exact ho, ?_, O.ne, O'.obj, _, O'.ns, fun g => ?_, fun g hg => ?_⟩
  · have := length_putF f y fs; omega
  · show RelO ((putF f y fs).lookup g) (if g = f then some u else mA g)
    rw [lookup_putF]
    by_cases q : g = f
    · rw [if_pos q, if_pos q]; exact ry
    · rw [if_neg q, if_neg q]; exact r g
  · by_cases q : g = f
    · rw [q]; exact (keys_putF f y fs).1
    · refine (keys_putF f y fs).2 g (wi g fun z => hg ?_)
      show (if g = f then some u else mA g) = none
      rw [if_neg q]; exact z
theorem Inv.made (I : Inv X pins σ H s) : Inv X pins σ (upd (upd H s.heap.objs.size (.own (s.heap.objs.size + 1))) (s.heap.objs.size + 1) (.ins C s.heap.objs.size []))
    { s with heap := (s.heap.push PySem.W.emptyDict).push (PySem.W.instObj C s.heap.objs.size) } := by
  have e1 : (s.heap.push PySem.W.emptyDict).get? s.heap.objs.size = some PySem.W.emptyDict := Heap.get?_push_size s.heap rfl
  have e2 : ((s.heap.push PySem.W.emptyDict).push (PySem.W.instObj C s.heap.objs.size)).get? (s.heap.objs.size + 1) = some (PySem.W.instObj C s.heap.objs.size) := by
    have := Heap.get?_push_size (s.heap.push PySem.W.emptyDict) (o := PySem.W.instObj C s.heap.objs.size) rfl
    rwa [Heap.size_push] at this
  have e3 : (s.heap.push PySem.W.emptyDict).Ns s.heap.objs.size (fun _ => none) := ⟨PySem.W.emptyDict, #[], _, e1, rfl, (fun e he => absurd he (by simp)), fun _ => rfl⟩
  have I1 := I.laid (a := s.heap.objs.size) (o := .own (s.heap.objs.size + 1)) (h' := s.heap.push PySem.W.emptyDict) (t' := s.toks) (fun b u q => Heap.get?_push_of_some _ q) (Nat.le_refl _) ⟨_, e1⟩
  refine I1.laid (a := s.heap.objs.size + 1) (o := .ins C s.heap.objs.size []) (t' := s.toks) (fun b u q => Heap.get?_push_of_some _ q) (Nat.le_of_eq (Heap.size_push _ _)) ?_
  have ne : s.heap.objs.size ≠ s.heap.objs.size + 1 := Nat.ne_of_lt (Nat.lt_succ_self _)
  refine ⟨by rw [upd_ne ne, upd_same], Nat.zero_le _, ne, e2, fun _ => none, (Heap.Ns1.of_empty e3).at fun o q => Heap.get?_push_of_some _ q, fun _ => True.intro, fun y hy => absurd rfl hy⟩
theorem attr_of {prog : Program} {w : World} {env : Env} {e : Expr} {f : Str} {pos : Pos} {s : Shared} {Q : Value → Shared → Prop} (hb : attributeBase e f env (eval e env) = eval e env)
    (h : wpAny (model prog w) A (eval e env) (fun o s₁ => wpAny (model prog w) A (getAttr o f true) Q E s₁) E s) : wpAny (model prog w) A (eval (.Attribute e f pos) env) Q E s :=
  Attribute_any_ h (by rw [arm_eval_Attribute, hb])
end
def tFld (K : PySem.W.Frag) (ta : TE) (f : Str) : TE := fun σ H Q => ta σ H fun x H1 => ∃ a C dx fs v, x = .ref a ∧ H1 a = some (.ins C dx fs) ∧ Cls K C ∧ NoAttr K C f ∧ fs.lookup f = some v ∧ Q v H1
def sFld (K : PySem.W.Frag) (ta tv : TE) (f : Str) : TS := fun D σ H => tv σ H fun y H1 => ta σ H1 fun x H2 => ∃ a C dx fs, x = .ref a ∧ H2 a = some (.ins C dx fs) ∧ Cls K C ∧ NoAttr K C f ∧ fs.length < 1000 ∧
  D.nx σ (upd H2 a (.ins C dx (putF f y fs)))
section
variable {X : Cx} {o e value : Expr} {f : Str} {pos pos' tpos : Pos} {ta tv : TE}
theorem pe_fld (he : PE X e ta) (hb : attributeBase e f X.env (eval e X.env) = eval e X.env) : PE X (.Attribute e f pos) (tFld X.K ta f) := by
  intro pins s σ H Q I h
  refine attr_of hb (thn (he pins s σ H _ I h) fun u s1 ⟨x, H1, I1, rx, a, C, dx, fs, v, ex, ea, c, n, l, q⟩ => ?_)
  subst ex
  obtain rfl : u = Value.ref a := rx
  exact getattr_ok I1 ea c n l fun u' s2 I2 ru => ⟨v, H1, I2, ru, q⟩
theorem ps_fld (ha : PE X o ta) (hv : PE X value tv) (hs : swapsWith value (some (.Attribute o f pos')) pos.line X.env = pure false) : PS X (.Assign [.Attribute o f pos'] value pos) (sFld X.K ta tv f) := by
  intro pins s σ H D I h
  refine plainObj_wpAny_Assign_Attribute (thn (hv pins s σ H _ I h) fun u s1 ⟨y, H1, I1, ry, q⟩ => thn (ha pins s1 σ H1 _ I1 q) fun ov s2 ⟨x, H2, I2, rx, a, C, dx, fs, ex, ea, c, n, l, q2⟩ => ?_) hs
  subst ex
  obtain rfl : ov = Value.ref a := rx
  exact setattr_ok I2 ea c n l ry fun s3 I3 => ⟨σ, _, I3, q2⟩
end
section
variable {X : Cx} {pins : List (Addr × Obj)} {σ : St} {H : Hp} {s : Shared} {A : Around} {E : Value → Shared → Prop} {Q : Value → Shared → Prop} {c : Value} {b : Bool}
inductive TyOf (K : PySem.W.Frag) (H : Hp) : V → Value → Prop where
  | non : TyOf K H .non (.type "NoneType")
  | bl (x : Bool) : TyOf K H (.bl x) (.type "bool")
  | int (i : Int) : TyOf K H (.int i) (.type "int")
  | str (x : Str) : TyOf K H (.str x) (.type "str")
  | flt (x : UInt64) : TyOf K H (.flt x) (.type "float")
  | lst {a : Addr} {xs : List V} (e : H a = some (.lst xs)) : TyOf K H (.ref a) (.type "list")
  | frz {a : Addr} {o : Obj} {xs : List V} (e : H a = some (.frz o (.lst xs))) : TyOf K H (.ref a) (.type "list")
  | tup {a : Addr} {xs : List V} (e : H a = some (.tup xs)) : TyOf K H (.ref a) (.type "tuple")
  | dK {a : Addr} {kvs : List (Key × V)} (e : H a = some (.dK kvs)) : TyOf K H (.ref a) (.type "dict")
  | dT {a : Addr} {kvs : List (List Key × V)} (e : H a = some (.dT kvs)) : TyOf K H (.ref a) (.type "dict")
  | ins {a C dx : Addr} {fs : List (Str × V)} (e : H a = some (.ins C dx fs)) (cl : Cls K C) (ha : PySem.W.findIn K (.ref C) "__class__" = some (some (.builtin "object.__class__")))
      (hn : PySem.W.specialIn K (.builtin "object.__class__") "__get__" = some (some (.builtin "getset_descriptor.__get__"))) (htk : PySem.W.takesIn K (.builtin "object.__class__") = some true)
      (hm : PySem.W.mroIn K C (.type "object") = some true) : TyOf K H (.ref a) (.ref C)
theorem isinst_ok {x : V} {u t : Value} (I : Inv X pins σ H s) (rx : RelV x u) (ty : TyOf X.K H x t) (e : PySem.W.kitOne X.K t c = some b) (h : ∀ tk, Q (.bool b) { s with toks := tk }) :
    wpAny (model X.prog X.w) A (call (.builtin "isinstance") [u, c]) Q E s := by
  cases ty with
  | non => cases (show u = Value.none from rx); exact PySem.W.kia_one PySem.W.kitx_none I.kIn True.intro e (fun z => nomatch z) h
  | bl y => cases (show u = Value.bool y from rx); exact PySem.W.kia_one PySem.W.kitx_bool I.kIn True.intro e (fun z => nomatch z) h
  | int i => obtain ⟨t, q⟩ := (show ∃ t, u = Value.int i t from rx); cases q; exact PySem.W.kia_one PySem.W.kitx_int I.kIn True.intro e (fun z => nomatch z) h
  | str y => obtain ⟨t, q⟩ := (show ∃ t, u = Value.str y t from rx); cases q; exact PySem.W.kia_one PySem.W.kitx_str I.kIn True.intro e (fun z => nomatch z) h
  | flt y => obtain ⟨t, q⟩ := (show ∃ t, u = Value.float y t from rx); cases q; exact PySem.W.kia_one PySem.W.kitx_float I.kIn True.intro e (fun z => nomatch z) h
  | @lst a xs ea =>
    cases (show u = Value.ref a from rx)
    obtain ⟨_, _, n, _, h1⟩ := (show ObjOk X.prog X.w H s.heap a (.lst xs) from I.hok a _ ea)
    exact PySem.W.kia_one PySem.W.kitx_list I.kIn ⟨_, h1, rfl⟩ e (fun z => nomatch z) h
  | @frz a ob xs ea =>
    cases (show u = Value.ref a from rx)
    obtain ⟨_, _, _, n, _, h1⟩ := (show ObjOk X.prog X.w H s.heap a (.frz ob (.lst xs)) from I.hok a _ ea)
    exact PySem.W.kia_one PySem.W.kitx_list I.kIn ⟨_, h1, rfl⟩ e (fun z => nomatch z) h
  | @tup a xs ea =>
    cases (show u = Value.ref a from rx)
    obtain ⟨_, _, _, p⟩ := (show ObjOk X.prog X.w H s.heap a (.tup xs) from I.hok a _ ea)
    obtain ⟨o, h1, h2, _⟩ := p
    exact PySem.W.kia_one PySem.W.kitx_tuple I.kIn ⟨o, h1, h2⟩ e (fun z => nomatch z) h
  | @dK a kvs ea =>
    cases (show u = Value.ref a from rx)
    obtain ⟨_, _, vs, _, p⟩ := (show ObjOk X.prog X.w H s.heap a (.dK kvs) from I.hok a _ ea)
    obtain ⟨o, es, ep, h1, h2, _⟩ := p
    exact PySem.W.kia_one PySem.W.kitx_dict I.kIn ⟨o, h1, h2.1⟩ e (fun z => nomatch z) h
  | @dT a kvs ea =>
    cases (show u = Value.ref a from rx)
    obtain ⟨_, _, xs, _, o, es, ep, h1, h2, _⟩ := (show ObjOk X.prog X.w H s.heap a (.dT kvs) from I.hok a _ ea)
    exact PySem.W.kia_one PySem.W.kitx_dict I.kIn ⟨o, h1, h2.1⟩ e (fun z => nomatch z) h
  | @ins a C dx fs ea cl ha hn htk hm =>
    cases (show u = Value.ref a from rx)
    obtain ⟨mA, O, _⟩ := ins_get I.hok ea
    obtain ⟨od, J, _⟩ := O.look
    exact PySem.W.kia_one (PySem.W.kitx_own (cl.get _) cl.hd ha hn htk hm) I.kIn J e (fun z => nomatch z) h
end
end L2
namespace L2
open PySem PySem.Spec PyProof.Rows
structure Room (k : Nat) (A : Around) : Prop where
  hd : A.handled = none
  dp : A.depth + 3 * k + 5 < recursionLimit
  un : A.units + 16 * k + 200 < cLine
theorem Room.mono {j k : Nat} {A : Around} (r : Room k A) (h : j ≤ k) : Room j A := ⟨r.hd, by have := r.dp; omega, by have := r.un; omega⟩
theorem Room.deeper {k : Nat} {A : Around} (r : Room (k + 1) A) (env : Env) : Room k (A.deeper env) :=
  ⟨r.hd, by have := r.dp; show A.depth + 1 + 3 * k + 5 < _; omega, by have := r.un; show A.units + 3 + 16 * k + 200 < _; omega⟩
theorem Room.in1 {k : Nat} {A : Around} (r : Room (k + 1) A) : Room k A.in1 :=
  ⟨r.hd, by have := r.dp; show A.depth + 3 * k + 5 < _; omega, by have := r.un; show A.units + 1 + 16 * k + 200 < _; omega⟩
theorem make_depth {A : Around} {C : Addr} {us : List Value} {kw : List (Str × Value)} : (A.under (.builtin "type.__call__" ⟨.ref C :: us, kw⟩)).depth = A.depth + 1 := by
  first | rfl | simp [Around.under, Code.weight, Code.isCreation, Code.isGuard, Code.isCaller, Code.frames, Code.isFrame, guardIds]
theorem make_units {A : Around} {C : Addr} {us : List Value} {kw : List (Str × Value)} : (A.under (.builtin "type.__call__" ⟨.ref C :: us, kw⟩)).units = A.units + 1 := by
  first | rfl | simp [Around.under, Code.cUnits, Code.frames, Code.isFrame]
theorem Room.make {k : Nat} {A : Around} (r : Room (k + 1) A) (C : Addr) (us : List Value) (kw : List (Str × Value)) : Room k (A.under (.builtin "type.__call__" ⟨.ref C :: us, kw⟩)) :=
  ⟨r.hd, by have := r.dp; rw [make_depth]; omega, by have := r.un; rw [make_units]; omega⟩
theorem Room.depth {k : Nat} {A : Around} (r : Room k A) : A.depth < recursionLimit := by have := r.dp; omega
theorem Room.units {k : Nat} {A : Around} (r : Room k A) : A.units + 64 < cLine := by have := r.un; omega
def tNil : TA := fun _ H Q => Q [] H
def tCons (ta : TE) (tr : TA) : TA := fun σ H Q => ta σ H fun x H1 => tr σ H1 fun xs H2 => Q (x :: xs) H2
section
variable {X : Cx} {e : Expr} {es : List Expr} {te : TE} {t : TA} {pos : Pos}
theorem pa_nil : PA X [] tNil := fun _ _ _ _ H Q I h => Calls.spliced_nil ⟨[], H, I, .nil, h⟩
theorem pa_cons (ha : PE X e te) (hr : PA X es t) (hs : starEach (e :: es) X.env = (false, eval e X.env) :: starEach es X.env := by rfl) : PA X (e :: es) (tCons te t) := by
  intro pos pins s σ H Q I h
  rw [hs]
  show wpAny _ _ (spliced ((false, eval e X.env) :: backTo pos (starEach es X.env))) _ _ s
  refine Calls.spliced_cons (thn (ha pins s σ H _ I h) fun u s1 ⟨x, H1, I1, r1, q1⟩ => ?_)
  exact thn (hr pos pins s1 σ H1 _ I1 q1) fun us s2 ⟨xs, H2, I2, r2, q2⟩ => ⟨x :: xs, H2, I2, .cons r1 r2, q2⟩
def tLst (t : TA) : TE := fun σ H Q => t σ H fun xs H1 => xs.length ≤ sizeLine ∧ ∀ p, H1 p = none → Q (.ref p) (upd H1 p (.lst xs))
theorem pe_lst (h : PA X es t) : PE X (.List es pos) (tLst t) := by
  intro pins s σ H Q I hq
  refine wpAny_List_spliced (thn (h pos pins s σ H _ I hq) fun us s1 ⟨xs, H1, I1, r, z, q⟩ => ⟨by rw [← r.length]; exact z, ?_⟩)
  have hf : H1 s1.heap.objs.size = none := I1.hok.fresh (Nat.le_refl _)
  refine ⟨.ref s1.heap.objs.size, upd H1 s1.heap.objs.size (.lst xs), I1.laid (t' := s1.toks) (fun b u e => Heap.get?_push_of_some _ e) (Nat.le_refl _) ?_, rfl, q _ hf⟩
  exact ⟨z, us, 0, r, Heap.get?_push_size _ rfl⟩
end
abbrev Sp := List V → Hp → VK → XK → Prop
abbrev CXT := List Env → Hp → Shared → XK → Value → Shared → Prop
structure Env0 (P : Program) (w : World) (K : PySem.W.Frag) (mg : Str → Option Value) (base : Heap) (A : Around) (outer : List Env) (s : Shared) (H : Hp) : Prop where
  frames : A.frames = some outer
  mod : Mod K mg base
  bs : ∀ b o, base.get? b = some o → s.heap.get? b = some o ∧ H b = none
  bsz : base.objs.size ≤ s.heap.objs.size
  funs : s.heap.FunFrames base outer
  frf : ∀ b ∈ frs outer, H b = none
  hok : HOk P w H s.heap
  bare : AllBare s.gens
def CE (outer : List Env) (P : Program) (w : World) (H : Hp) (s : Shared) (Q : VK) (u : Value) (s' : Shared) : Prop :=
  ∃ v H', s'.os = s.os ∧ AllBare s'.gens ∧ Un (frs outer) [] H H' s.heap s'.heap ∧ HOk P w H' s'.heap ∧ RelV v u ∧ Q v H'
def CR (CX : CXT) (outer : List Env) (P : Program) (w : World) (H : Hp) (s : Shared) (Q : VK) (E : XK) (r : Result) (s' : Shared) : Prop :=
  match r with
  | .ok (.ret u) => CE outer P w H s Q u s'
  | .ok _ => False
  | .error e => CX outer H s E e s'
structure FnOk (P : Program) (w : World) (K : PySem.W.Frag) (mg : Str → Option Value) (base : Heap) (CX : CXT) (k : Nat) (f : Addr) (fd : FuncData) (ps : List Str) (sp : Sp) : Prop where
  len : ∀ vs H Q E, sp vs H Q E → vs.length = ps.length
  run : ∀ (A : Around) (outer : List Env) (s : Shared) (H : Hp) (args : Args) (us : List Value) (vs : List V) (Q : VK) (E : XK), Room k A → Env0 P w K mg base A outer s H → BindsTo s fd args (ps.zip us) → Vals vs us → sp vs H Q E →
    codeAny (model P w) A (.call (.ref f) args) (CR CX outer P w H s Q E) s
theorem FnOk.mono {P : Program} {w : World} {K : PySem.W.Frag} {mg : Str → Option Value} {base : Heap} {CX : CXT} {j k : Nat} {f : Addr} {fd : FuncData} {ps : List Str} {sp : Sp} (F : FnOk P w K mg base CX j f fd ps sp) (h : j ≤ k) :
    FnOk P w K mg base CX k f fd ps sp := ⟨F.len, fun A outer s H args us vs Q E hr => F.run A outer s H args us vs Q E (hr.mono h)⟩
theorem Env0.make {P : Program} {w : World} {K : PySem.W.Frag} {mg : Str → Option Value} {base : Heap} {A : Around} {outer : List Env} {s : Shared} {H : Hp} (e : Env0 P w K mg base A outer s H) (C : Addr) (us : List Value) (kw : List (Str × Value)) :
    Env0 P w K mg base (A.under (.builtin "type.__call__" ⟨.ref C :: us, kw⟩)) outer s H := ⟨by first | exact e.frames | (simpa [Around.under, Code.envs, Code.isFrame, pushEnvs] using e.frames), e.mod, e.bs, e.bsz, e.funs, e.frf, e.hok, e.bare⟩
section
variable {X : Cx} {pins : List (Addr × Obj)} {σ : St} {H : Hp} {s s' : Shared}
theorem Inv.env0 (I : Inv X pins σ H s) : Env0 X.prog X.w X.K X.mg X.base X.A X.stack s H :=
  ⟨I.ok.frames, I.ok.mod, I.bs, Nat.le_trans I.ok.bsz I.sz, I.stack, I.stkFree, I.hok, I.bare⟩
theorem Inv.after {Q : VK} {u : Value} (I : Inv X pins σ H s) (h : CE X.stack X.prog X.w H s Q u s') : EP X pins σ Q u s' := by
  obtain ⟨v, H', os, bare, un, hok, r, q⟩ := h
  obtain ⟨hh, g, d, t, os'⟩ := s'
  obtain rfl : os' = s.os := os
  exact ⟨v, H', I.call (h' := hh) (g' := g) (d' := d) (t' := t) (ch := []) un hok bare (fun b z => absurd z (by simp)), r, q⟩
end
def tCall (sp : Sp) (dvs : List V) (E : XK) (t : TA) : TE := fun σ H Q => t σ H fun vs H1 => sp (vs ++ dvs) H1 Q E
def tMake (C : Addr) (sp : Sp) (dvs : List V) (E : XK) (t : TA) : TE := fun σ H Q => t σ H fun vs H1 => ∀ x dx, H1 x = none → H1 dx = none → dx ≠ x →
  sp (.ref x :: (vs ++ dvs)) (upd (upd H1 dx (.own x)) x (.ins C dx [])) (fun v H2 => v = .non ∧ Q (.ref x) H2) E
def Binds (K : PySem.W.Frag) (fd : FuncData) (ps : List Str) (ds : List Value) : Prop :=
  ∀ (s : Shared) (us : List Value), K.In s.heap → (us ++ ds).length = ps.length → BindsTo s fd ⟨us, []⟩ (ps.zip (us ++ ds))
theorem Binds.all {K : PySem.W.Frag} {fd : FuncData} {ps : List Str} (h : ∀ us : List Value, us.length = ps.length → bindArgs fd ⟨us, []⟩ = pure (ps.zip us)) : Binds K fd ps [] := fun s us _ hl => by
  rw [List.append_nil] at hl ⊢
  exact .of_eq (h us hl)
def Passes (CX : CXT) (X : Cx) (E : XK) : Prop := ∀ (pins : List (Addr × Obj)) (σ : St) (H : Hp) (s : Shared) (e : Value) (s' : Shared), Inv X pins σ H s → CX X.stack H s E e s' → X.xe e s'
section
variable {X : Cx} {CX : CXT} {k : Nat} {f C : Addr} {fd : FuncData} {ps : List Str} {sp : Sp} {dvs : List V} {ds : List Value} {E : XK} {x m : Str} {p pos apos : Pos} {e o : Expr} {es : List Expr} {ta : TE} {t : TA}
theorem run_fn {pins : List (Addr × Obj)} {σ : St} {H : Hp} {s : Shared} {Q : VK} {us : List Value} {vs : List V} (F : FnOk X.prog X.w X.K X.mg X.base CX k f fd ps sp) (hr : Room k X.A) (hb : Binds X.K fd ps ds) (hd : Vals dvs ds) (hx : Passes CX X E)
    (I : Inv X pins σ H s) (r : Vals vs us) (h : sp (vs ++ dvs) H Q E) : wpAny (model X.prog X.w) X.A (call (.ref f) us) (EP X pins σ Q) X.xe s := by
  have r2 : Vals (vs ++ dvs) (us ++ ds) := r.append hd
  have hl : (us ++ ds).length = ps.length := by rw [← r2.length]; exact F.len _ _ _ _ h
  refine wpAny_call (codeAny_mono (F.run X.A X.stack s H ⟨us, []⟩ (us ++ ds) (vs ++ dvs) Q E hr I.env0 (hb s us I.kIn hl) r2 h) fun r s' hq => ?_)
  cases r with
  | error e => exact hx pins σ H s e s' I hq
  | ok fl =>
    cases fl with
    | ret u => exact I.after hq
    | next => exact False.elim hq
    | brk => exact False.elim hq
    | cont => exact False.elim hq
theorem pe_call (F : FnOk X.prog X.w X.K X.mg X.base CX k f fd ps sp) (hr : Room k X.A) (hg : Gl X x) (hm : X.mg x = some (.ref f)) (hk : PySem.W.keepIn X.K (.ref f) = true) (hb : Binds X.K fd ps ds) (hd : Vals dvs ds) (hx : Passes CX X E)
    (ha : PA X (e :: es) t) (hdb : (x == ("__debug__" : Str)) = false := by decide) (he : starEach (e :: es) X.env = (false, eval e X.env) :: starEach es X.env := by rfl) (hpl : (backTo pos (starEach es X.env)).any (·.1) = false := by rfl) :
    PE X (.Call (.Name x p) (e :: es) [] pos) (tCall sp dvs E t) := by
  intro pins s σ H Q I h
  refine wpAny_Call_Name_kw (ld_glob I hg hm ?_ hdb)
  refine PySem.W.callWith_K (h₀ := X.base) I.ok.mod.kin hk (thn (ha pos pins s σ H _ I h) fun us s1 ⟨vs, H1, I1, r, q⟩ => ⟨I1.kIn, ?_⟩) he hpl
  exact run_fn F hr hb hd hx I1 r q
structure Mk (K : PySem.W.Frag) (C f : Addr) : Prop where
  makes : PySem.W.makesIn K C = true
  init : PySem.W.findIn K (.ref C) "__init__" = some (some (.ref f))
  fn : PySem.W.isFn K (.ref f) = true
  kp : PySem.W.keepIn K (.ref C) = true
theorem run_make {pins : List (Addr × Obj)} {σ : St} {H : Hp} {s : Shared} {Q : VK} {us : List Value} {vs : List V} (M : Mk X.K C f) (F : FnOk X.prog X.w X.K X.mg X.base CX k f fd ps sp) (hr : Room (k + 1) X.A) (hb : Binds X.K fd ps ds) (hd : Vals dvs ds)
    (hx : Passes CX X E) (I : Inv X pins σ H s) (r : Vals vs us)
    (h : ∀ x dx, H x = none → H dx = none → dx ≠ x → sp (.ref x :: (vs ++ dvs)) (upd (upd H dx (.own x)) x (.ins C dx [])) (fun v H2 => v = .non ∧ Q (.ref x) H2) E) :
    wpAny (model X.prog X.w) X.A (call (.ref C) us) (EP X pins σ Q) X.xe s := by
  have hq := h (s.heap.objs.size + 1) s.heap.objs.size (I.hok.fresh (Nat.le_succ _)) (I.hok.fresh (Nat.le_refl _)) (Nat.ne_of_lt (Nat.lt_succ_self _))
  have I2 := Inv.made (C := C) I
  have r2 : Vals (V.ref (s.heap.objs.size + 1) :: (vs ++ dvs)) (Value.ref (s.heap.objs.size + 1) :: (us ++ ds)) := .cons rfl (r.append hd)
  have hl : (Value.ref (s.heap.objs.size + 1) :: us ++ ds).length = ps.length := by
    have e := r2.length
    rw [F.len _ _ _ _ hq] at e
    exact e.symm
  refine wpAny_call (make_map (f := f) I.kIn M.makes M.init (beq_iff_eq.mp M.fn) (codeAny_mono (F.run _ X.stack _ _ ⟨Value.ref (s.heap.objs.size + 1) :: us, []⟩ (Value.ref (s.heap.objs.size + 1) :: (us ++ ds)) _ _ E (hr.make C us [])
    (I2.env0.make C us []) (hb _ (Value.ref (s.heap.objs.size + 1) :: us) I2.kIn hl) r2 hq) fun r s' hq' => ?_))
  cases r with
  | error e => exact hx pins σ _ _ e s' I2 hq'
  | ok fl =>
    cases fl with
    | ret u =>
      obtain ⟨v, H', I3, rv, ev, q3⟩ := I2.after hq'
      subst ev
      exact ⟨rv, ⟨V.ref (s.heap.objs.size + 1), H', I3, rfl, q3⟩⟩
    | next => exact False.elim hq'
    | brk => exact False.elim hq'
    | cont => exact False.elim hq'
theorem pe_make (M : Mk X.K C f) (F : FnOk X.prog X.w X.K X.mg X.base CX k f fd ps sp) (hr : Room (k + 1) X.A) (hg : Gl X x) (hm : X.mg x = some (.ref C)) (hb : Binds X.K fd ps ds) (hd : Vals dvs ds) (hx : Passes CX X E)
    (ha : PA X (e :: es) t) (hdb : (x == ("__debug__" : Str)) = false := by decide) (he : starEach (e :: es) X.env = (false, eval e X.env) :: starEach es X.env := by rfl) (hpl : (backTo pos (starEach es X.env)).any (·.1) = false := by rfl) :
    PE X (.Call (.Name x p) (e :: es) [] pos) (tMake C sp dvs E t) := by
  intro pins s σ H Q I h
  refine wpAny_Call_Name_kw (ld_glob I hg hm ?_ hdb)
  refine PySem.W.callWith_K (h₀ := X.base) I.ok.mod.kin M.kp (thn (ha pos pins s σ H _ I h) fun us s1 ⟨vs, H1, I1, r, q⟩ => ⟨I1.kIn, ?_⟩) he hpl
  exact run_make M F hr hb hd hx I1 r q
end
section
variable {X : Cx} {CX : CXT} {k : Nat} {f C : Addr} {fd : FuncData} {ps ks : List Str} {sp : Sp} {E : XK} {x m : Str} {p pos apos kpos : Pos} {e o : Expr} {es : List Expr} {kws : List Keyword} {te ta : TE} {t tk : TA} {nm : Option Str}
structure KBinds (K : PySem.W.Frag) (fd : FuncData) (ps ks : List Str) (g : List Value → List Value → List Value) (gV : List V → List V → List V) : Prop where
  to : ∀ (s : Shared) (us ws : List Value), K.In s.heap → (g us ws).length = ps.length → BindsTo s fd ⟨us, ks.zip ws⟩ (ps.zip (g us ws))
  rel : ∀ {vs : List V} {us : List Value} {zs : List V} {ws : List Value}, Vals vs us → Vals zs ws → Vals (gV vs zs) (g us ws)
variable {g : List Value → List Value → List Value} {gV : List V → List V → List V}
end
structure FnScope (N P : List Str) (sc : Scope) : Prop where
  kind : sc.kind = .function
  co : sc.isCoroutine = false
  gen : sc.isGenerator = false
  nd : N.Nodup
  pre : N.take P.length = P
  par : ∀ x ∈ P, sc.names.lookup x = some .local ∨ sc.names.lookup x = some .cell
  nofree : ∀ y ∈ sc.names, y.2 ≠ .free
theorem bindL_out {kindOf : Str → Option NameKind} {x : Str} : ∀ {binds : List (Str × Value)} {m : Str → Option Value}, (∀ v, (x, v) ∉ binds) → bindL kindOf binds m x = m x
  | [], _, _ => rfl
  | (n, v) :: r, m, h => by
    unfold bindL
    rw [bindL_out fun w hw => h w (List.mem_cons_of_mem _ hw)]
    split
    · have : x ≠ n := by rintro rfl; exact h v List.mem_cons_self
      simp [this]
    · rfl
theorem bindC_out {kindOf : Str → Option NameKind} {x : Str} : ∀ {binds : List (Str × Value)} {m : Str → Option Value}, (∀ v, (x, v) ∉ binds) → bindC kindOf binds m x = m x
  | [], _, _ => rfl
  | (n, v) :: r, m, h => by
    unfold bindC
    rw [bindC_out fun w hw => h w (List.mem_cons_of_mem _ hw)]
    split
    · rfl
    · have : x ≠ n := by rintro rfl; exact h v List.mem_cons_self
      simp [this]
theorem bindL_get {kindOf : Str → Option NameKind} {x : Str} {v : Value} : ∀ {P : List Str} {vs : List Value} {i : Nat} {m : Str → Option Value}, P.Nodup → P[i]? = some x → vs[i]? = some v → kindOf x = some .local →
    bindL kindOf (P.zip vs) m x = some v
  | [], _, _, _, _, h, _, _ => by simp at h
  | _ :: _, [], _, _, _, _, h, _ => by simp at h
  | p :: P, w :: vs, 0, m, nd, h1, h2, hk => by
    simp at h1 h2; subst h1; subst h2
    show bindL kindOf ((p, w) :: P.zip vs) m p = _
    unfold bindL
    rw [bindL_out fun v hv => (List.nodup_cons.mp nd).1 (List.of_mem_zip hv).1, if_pos hk]
    simp
  | p :: P, w :: vs, i + 1, m, nd, h1, h2, hk => by
    show bindL kindOf ((p, w) :: P.zip vs) m x = _
    unfold bindL
    exact bindL_get (i := i) (List.nodup_cons.mp nd).2 (by simpa using h1) (by simpa using h2) hk
theorem bindC_get {kindOf : Str → Option NameKind} {x : Str} {v : Value} : ∀ {P : List Str} {vs : List Value} {i : Nat} {m : Str → Option Value}, P.Nodup → P[i]? = some x → vs[i]? = some v → kindOf x ≠ some .local →
    bindC kindOf (P.zip vs) m x = some v
  | [], _, _, _, _, h, _, _ => by simp at h
  | _ :: _, [], _, _, _, _, h, _ => by simp at h
  | p :: P, w :: vs, 0, m, nd, h1, h2, hk => by
    simp at h1 h2; subst h1; subst h2
    show bindC kindOf ((p, w) :: P.zip vs) m p = _
    unfold bindC
    rw [bindC_out fun v hv => (List.nodup_cons.mp nd).1 (List.of_mem_zip hv).1, if_neg hk]
    simp
  | p :: P, w :: vs, i + 1, m, nd, h1, h2, hk => by
    show bindC kindOf ((p, w) :: P.zip vs) m x = _
    unfold bindC
    exact bindC_get (i := i) (List.nodup_cons.mp nd).2 (by simpa using h1) (by simpa using h2) hk
def start (N : List Str) (vs : List V) : St := vs.map some ++ List.replicate (N.length - vs.length) none
def cxOf (CX : CXT) (P : Program) (w : World) (K : PySem.W.Frag) (mg : Str → Option Value) (base : Heap) (N : List Str) (qual : Str) (scope : Scope) (f : Addr) (cd : Value) (A : Around) (outer : List Env) (s : Shared) (H : Hp) (E : XK) : Cx where
  prog := P
  w := w
  K := K
  mg := mg
  base := base
  A := A.deeper (envOfC qual scope s.heap.objs.size f cd)
  N := N
  s₀ := s
  H₀ := H
  env := envOfC qual scope s.heap.objs.size f cd
  outer := outer
  stack := envOfC qual scope s.heap.objs.size f cd :: outer
  ex := []
  calm := true
  fn := fun _ => true
  pn := []
  xe := fun e s' => wpAny (model P w) (A.deeper (envOfC qual scope s.heap.objs.size f cd)) (leaving (envOfC qual scope s.heap.objs.size f cd) e) (fun _ s'' => CX outer H s E e s'') (fun e' s'' => CX outer H s E e' s'') s'
theorem cell_has {sc : Scope} {n : Nat} {x : Str} (h : sc.names.lookup x = some .cell) : ∃ c, (cellsFrom n sc.names []).lookup x = some c := by
  have q := PySem.W.cellsFrom_some sc.names n [] (.inl h)
  exact Option.isSome_iff_exists.mp q
theorem inv_start {CX : CXT} {P : Program} {w : World} {K : PySem.W.Frag} {mg : Str → Option Value} {base : Heap} {N ps : List Str} {qual : Str} {scope : Scope} {f : Addr} {cd : Value} {A : Around} {outer : List Env} {s s1 : Shared} {H : Hp} {E : XK} {us : List Value} {vs : List V}
    (S : FnScope N ps scope) (hd : A.handled = none) (e0 : Env0 P w K mg base A outer s H) (hl : vs.length = ps.length) (r : Vals vs us)
    (x : InCallC s s.heap.objs.size (bindL (envOfC qual scope s.heap.objs.size f cd).kindOf (ps.zip us) fun _ => none) (cellsFrom (s.heap.objs.size + 1) scope.names []) (bindC (envOfC qual scope s.heap.objs.size f cd).kindOf (ps.zip us) fun _ => none) s1) :
    Inv (cxOf CX P w K mg base N qual scope f cd A outer s H E) [] (start N vs) H s1 := by
  have hpl : ps.length ≤ N.length := by have := congrArg List.length S.pre; rw [List.length_take] at this; omega
  obtain ⟨h1, tk, rfl, hk⟩ := x.done
  have noA : ∀ b : Addr, b ∉ (cxOf CX P w K mg base N qual scope f cd A outer s H E).ex := fun b z => absurd (show b ∈ ([] : List Addr) from z) (by simp)
  refine ⟨⟨e0.mod, S.kind, rfl, rfl, Nat.le_refl _, fun y z c h1 h2 => ?_, fun y hy => ?_, fun y c _ h => ?_, fun _ => hd, Around.frames_deeper e0.frames, .inr ⟨rfl, rfl⟩, fun b z => absurd z (noA b), e0.bs, e0.bsz, fun b _ _ => noA b, fun b z => absurd z (noA b), e0.funs, e0.frf⟩,
    rfl, e0.bare, Un.kept hk, ⟨_, x.toInCall.ns, fun i y v h1 h2 h3 => ?_⟩, fun y c h => ⟨_, x.cell y c h⟩, e0.hok.fresh (Nat.le_refl _), fun y c h => ?_, fun p hp => absurd (show p ∈ ([] : List (Addr × Obj)) from hp) (by simp), e0.hok.kept hk, ?_⟩
  · exact name_of_addr x.apart (PySem.mem_of_lookup h1) (PySem.mem_of_lookup h2)
  · have hy : scope.names.lookup y = some .cell ∨ scope.names.lookup y = some .free := hy
    rcases hy with hy | hy
    · exact cell_has hy
    · exact absurd rfl (S.nofree _ (PySem.mem_of_lookup hy))
  · exact Nat.le_of_lt (x.above y c (PySem.mem_of_lookup h))
  · have hi : i < vs.length := by
      unfold start at h2
      by_cases hi : i < vs.length
      · exact hi
      · rw [List.getElem?_append_right (by simpa using hi)] at h2
        rw [List.getElem?_replicate] at h2
        split at h2 <;> cases h2
    have ha : vs[i]? = some v := by
      unfold start at h2
      rw [List.getElem?_append_left (by simpa using hi), List.getElem?_map] at h2
      cases e : vs[i]? with
      | none => rw [e] at h2; cases h2
      | some a => rw [e] at h2; cases h2; rfl
    obtain ⟨u, hu, rv⟩ := r.get ha
    have hp : ps[i]? = some y := by
      rw [← S.pre, List.getElem?_take_of_lt (by omega)]; exact h1
    have ndP : ps.Nodup := by rw [← S.pre]; exact S.nd.sublist (List.take_sublist _ _)
    refine ⟨u, rv, ?_⟩
    rcases S.par y (List.mem_of_getElem? hp) with k | k
    · exact .inl ⟨k, bindL_get ndP hp hu k⟩
    · obtain ⟨c, e⟩ := cell_has (n := s.heap.objs.size + 1) k
      refine .inr ⟨.inl k, c, e, ?_⟩
      have q := x.cell y c e
      rw [bindC_get ndP hp hu (by show scope.names.lookup y ≠ _; rw [k]; decide)] at q
      exact q
  · exact e0.hok.fresh (Nat.le_of_lt (x.above y c (PySem.mem_of_lookup h)))
  · unfold start
    show _ = N.length
    rw [List.length_append, List.length_map, List.length_replicate]
    omega
theorem fn_of {CX : CXT} {P : Program} {w : World} {K : PySem.W.Frag} {mg : Str → Option Value} {base : Heap} {k : Nat} {f : Addr} {name qual : Str} {params : Arguments} {body : List Stmt} {scope : Scope} {dV kV doc pm cdv ct oc : Value} {an od : Option Addr}
    {osl : Array (Option Value)} {N ps : List Str} {sp : Sp} (lk : K.lookup f = some ⟨oc, od, .func (PySem.W.fnOf name qual params body scope dV kV doc pm an cdv ct), osl⟩) (hcd : PySem.W.codeIn K cdv qual = true) (S : FnScope N ps scope)
    (len : ∀ vs H Q E, sp vs H Q E → vs.length = ps.length)
    (hbody : ∀ (A : Around) (outer : List Env) (s : Shared) (H : Hp) (vs : List V) (Q : VK) (E : XK), Room k (A.deeper (envOfC qual scope s.heap.objs.size f cdv)) → sp vs H Q E →
      ∃ t, PSs (cxOf CX P w K mg base N qual scope f cdv A outer s H E) body t ∧ t { nx := fun _ H' => Q .non H', rt := Q } (start N vs) H) :
    FnOk P w K mg base CX (k + 1) f (PySem.W.fnOf name qual params body scope dV kV doc pm an cdv ct) ps sp := by
  refine ⟨len, fun A outer s H args us vs Q E hr e0 hb r hsp => ?_⟩
  have hl := len _ _ _ _ hsp
  have KX : K.In s.heap := e0.mod.kin.keeps fun b o e => (e0.bs b o e).1
  have lim : s.heap.NoLimit := e0.mod.nolimit.keeps fun b o e => (e0.bs b o e).1
  have hkind : ∀ y ∈ ps.zip us, scope.names.lookup y.1 = some .local ∨ (scope.names.lookup y.1 = some .cell ∧ ((cellsFrom (s.heap.objs.size + 1) scope.names []).lookup y.1).isSome = true) := fun ⟨n, v⟩ hy => by
    rcases S.par n (List.of_mem_zip hy).1 with q | q
    · exact .inl q
    · exact .inr ⟨q, PySem.W.cellsFrom_some _ _ _ (.inl q)⟩
  refine codeAny_call_function hr.depth (KX _ _ lk) rfl S.co S.gen rfl (PySem.W.codeRec_of KX hcd) (hb _ _ _ _ ?_)
  refine wpAny_newFunctionEnv_cells S.kind hkind fun env he s1 x => ?_
  subst he
  refine ⟨lim.keeps x.toInCall.keep, codeAny_func ?_⟩
  obtain ⟨t, ht, hq⟩ := hbody A outer s H vs Q E (hr.deeper _) hsp
  have I : Inv (cxOf CX P w K mg base N qual scope f cdv A outer s H E) [] (start N vs) H s1 := inv_start S hr.hd e0 hl r x
  refine wpAny_mono (ht [] s1 (start N vs) H _ I hq) (fun fl s' hs => ?_) fun e s' hs => hs
  have fin : ∀ {σ' : St} {H' : Hp} {v : V} {u : Value}, Inv (cxOf CX P w K mg base N qual scope f cdv A outer s H E) [] σ' H' s' → RelV v u → Q v H' → CE outer P w H s Q u s' :=
    fun {σ' H' v u} J rv q => ⟨v, H', J.os, J.bare, J.base, J.hok, rv, q⟩
  cases fl with
  | ret u =>
    obtain ⟨v, σ', H', J, rv, q⟩ := hs
    exact fin J rv q
  | next =>
    obtain ⟨σ', H', J, q⟩ := hs
    exact fin (v := V.non) (u := Value.none) J rfl q
  | brk =>
    obtain ⟨_, _, _, q⟩ := hs
    exact False.elim q
  | cont =>
    obtain ⟨_, _, _, q⟩ := hs
    exact False.elim q
end L2
namespace L2
open PySem PySem.Spec PyProof.Rows
section
variable {X : Cx} {x : Str} {p pos : Pos} {e : Expr} {es : List Expr} {t : TA} {id T : String} {r : List V → Hp → VK → Prop}
def tCB (r : List V → Hp → VK → Prop) (t : TA) : TE := fun σ H Q => t σ H fun vs H1 => r vs H1 Q
theorem pe_callB (hc : CallR X (.builtin id) r) (hg : Gl X x) (hm : X.mg x = none) (hv : bootBuiltins x = some (.builtin id)) (ha : PA X (e :: es) t) (hn : x ≠ "__name__" := by decide) (hdb : (x == ("__debug__" : Str)) = false := by decide)
    (he : starEach (e :: es) X.env = (false, eval e X.env) :: starEach es X.env := by rfl) (hpl : (backTo pos (starEach es X.env)).any (·.1) = false := by rfl) : PE X (.Call (.Name x p) (e :: es) [] pos) (tCB r t) := by
  intro pins s σ H Q I h
  refine wpAny_Call_Name_kw (ld_blt I hg hm hv ?_ hn hdb)
  exact PyProof.Rows.callWith_builtin1 (thn (ha pos pins s σ H _ I h) fun us s1 ⟨vs, H1, I1, r1, q1⟩ => hc pins s1 σ H1 vs us Q I1 r1 q1) he hpl
theorem pe_callTy (hc : CallR X (.type T) r) (hg : Gl X x) (hm : X.mg x = none) (hv : bootBuiltins x = some (.type T)) (ha : PA X (e :: es) t) (hn : x ≠ "__name__" := by decide) (hdb : (x == ("__debug__" : Str)) = false := by decide)
    (he : starEach (e :: es) X.env = (false, eval e X.env) :: starEach es X.env := by rfl) (hpl : (backTo pos (starEach es X.env)).any (·.1) = false := by rfl) : PE X (.Call (.Name x p) (e :: es) [] pos) (tCB r t) := by
  intro pins s σ H Q I h
  refine wpAny_Call_Name_kw (ld_blt I hg hm hv ?_ hn hdb)
  exact PyProof.Rows.callWith_type1 (thn (ha pos pins s σ H _ I h) fun us s1 ⟨vs, H1, I1, r1, q1⟩ => hc pins s1 σ H1 vs us Q I1 r1 q1) he hpl
end
end L2
namespace HT
open PySem PyProof.Rows
section
open PySem.SeqAt
open PySem.AutoSeq1 (wpAny_loadPart')
open PySem.MeetsSeq PySem.MeetsSeq2 PySem.MeetsSeq3
end
section
variable {prog : Program} {w : World} {A : Around} {E : Value → Shared → Prop} {s : Shared}
def sIx (n d : Nat) : Option Int → Nat
  | none => d
  | some v => if v < 0 then (v + (n : Int)).toNat else min v.toNat n
theorem sIx_none (n d : Nat) : sIx n d none = d := rfl
theorem sIx_nat (n d k : Nat) : sIx n d (some (k : Int)) = min k n := by
  show (if (k : Int) < 0 then ((k : Int) + (n : Int)).toNat else min (k : Int).toNat n) = min k n
  rw [if_neg (by omega), Int.toNat_natCast]
theorem sIx_le (n d : Nat) (hd : d ≤ n) (o : Option Int) : sIx n d o ≤ n := by
  cases o with
  | none => exact hd
  | some v =>
    show (if v < 0 then (v + (n : Int)).toNat else min v.toNat n) ≤ n
    by_cases hv : v < 0
    · rw [if_pos hv]; omega
    · rw [if_neg hv]; exact Nat.min_le_right _ _
theorem clip_eq (v : Int) (n d : Nat) : (if v < 0 then max (v + (n : Int)) 0 else min v (n : Int)) = ((sIx n d (some v) : Nat) : Int) := by
  show (if v < 0 then max (v + (n : Int)) 0 else min v (n : Int)) = (((if v < 0 then (v + (n : Int)).toNat else min v.toNat n) : Nat) : Int)
  by_cases hv : v < 0
  · simp only [if_pos hv]; omega
  · simp only [if_neg hv]; omega
theorem adjust_gen (lo hi : Option Int) (n : Nat) : Builtin.Slice.sliceAdjust lo hi 1 (n : Int) = (((sIx n 0 lo : Nat) : Int), ((sIx n n hi : Nat) : Int)) := by
  have h1 : ¬ ((1 : Int) < 0) := by omega
  unfold Builtin.Slice.sliceAdjust
  simp only [h1, if_false]
  refine Prod.ext ?_ ?_
  · cases lo with
    | none => rfl
    | some v => exact clip_eq v n 0
  · cases hi with
    | none => rfl
    | some v => exact clip_eq v n n
theorem places_gen (i j : Nat) : Builtin.Slice.slicePlaces (i : Int) (j : Int) 1 = j - i := by
  unfold Builtin.Slice.slicePlaces
  have h1 : (1 : Int) > 0 := by omega
  simp only [h1, if_true, Int.ediv_one]
  split <;> omega
theorem slicePart_ {v : Value} {o : Option Int} {Q : Option Int → Shared → Prop} (p : IsPart v o) (h : Q o s) : wpAny (model prog w) A (Builtin.Slice.slicePartIndex v) Q E s := by
  cases p with
  | none => exact slicePart_none h
  | int i t => exact slicePart_int h
theorem sliceApplied_gen {sl : Addr} {vl vu : Value} {lo hi : Option Int} {n : Nat} {Q : Int × Int × Nat → Shared → Prop} (hs : s.heap.IsSliceOf sl vl vu .none) (pl : IsPart vl lo) (pu : IsPart vu hi)
    (h : Q (((sIx n 0 lo : Nat) : Int), 1, sIx n n hi - sIx n 0 lo) s) : wpAny (model prog w) A (Builtin.Slice.sliceApplied (.ref sl) (pure (n : Int))) Q E s := by
  obtain ⟨os, hos, hcs, hds⟩ := id hs
  unfold Builtin.Slice.sliceApplied Builtin.Slice.sliceFields
  refine wpAny_bind (wpAny_bind (wpAny_field hos hds (x := vl) rfl (wpAny_bind (wpAny_field hos hds (x := vu) rfl (wpAny_bind (wpAny_field hos hds (x := .none) rfl (wpAny_pure ?_)))))))
  refine wpAny_bind (slicePart_none ?_)
  show wpAny _ _ (if ((1 : Int) == 0) = true then _ else _) _ _ s
  rw [if_neg (by decide)]
  refine wpAny_bind (slicePart_ pl (wpAny_bind (slicePart_ pu (wpAny_bind (wpAny_pure ?_)))))
  show wpAny _ _ (match Builtin.Slice.sliceAdjust lo hi 1 (n : Int) with | (lo, hi) => pure (lo, (1 : Int), Builtin.Slice.slicePlaces lo hi 1)) _ _ s
  rw [adjust_gen lo hi n]
  show wpAny _ _ (pure (((sIx n 0 lo : Nat) : Int), (1 : Int), Builtin.Slice.slicePlaces ((sIx n 0 lo : Nat) : Int) ((sIx n n hi : Nat) : Int) 1)) _ _ s
  rw [places_gen]
  exact wpAny_pure h
theorem pick_gen (xs : Array Value) (i k : Nat) : ((List.range k).filterMap fun (m : Nat) => xs[((i : Int) + (m : Int) * 1).toNat]?).toArray = ((xs.toList.drop i).take k).toArray := by
  have e : (fun (m : Nat) => xs[((i : Int) + (m : Int) * 1).toNat]?) = fun m => xs[i + m]? := by
    funext m
    have : ((i : Int) + (m : Int) * 1).toNat = i + m := by omega
    rw [this]
  rw [e]
  have := pick_run xs i k
  rw [List.filterMap_map] at this
  have e2 : ((fun x => xs[x]?) ∘ fun x => i + x) = fun m => xs[i + m]? := rfl
  rw [e2] at this
  rw [this]
theorem getItem_tuple_cut {t sl : Addr} {items : Array Value} {vl vu : Value} {lo hi : Option Int} {Q : Value → Shared → Prop} (ht : IsTup s.heap t items) (hs : s.heap.IsSliceOf sl vl vu .none) (pl : IsPart vl lo) (pu : IsPart vu hi)
    (hw : ¬ (sIx items.size 0 lo = 0 ∧ sIx items.size items.size hi = items.size))
    (h : Q (.ref s.heap.objs.size) { s with heap := s.heap.push { cls := .type "tuple", data := .seq ((items.toList.drop (sIx items.size 0 lo)).take (sIx items.size items.size hi - sIx items.size 0 lo)).toArray } })
    (hsz : items.size ≤ sizeLine) : wpAny (model prog w) A (getItem (.ref t) (.ref sl)) Q E s := by
  have htake : sizeOk (.seq ((items.toList.drop (sIx items.size 0 lo)).take (sIx items.size items.size hi - sIx items.size 0 lo)).toArray) := by
    show ((items.toList.drop (sIx items.size 0 lo)).take (sIx items.size items.size hi - sIx items.size 0 lo)).toArray.size ≤ sizeLine
    rw [List.size_toArray, List.length_take, List.length_drop, Array.length_toList]
    omega
  have hj : sIx items.size items.size hi ≤ items.size := sIx_le _ _ (Nat.le_refl _) hi
  obtain ⟨os, hos, hcs, hds⟩ := id hs
  have hTs : s.TypeIs (.ref sl) "slice" := ⟨os, hos, hcs⟩
  unfold getItem
  try with_reducible refine wpAny_holding ?_
  first | refine wpAny_bind (wpAny_pure ?_) | skip
  refine wpAny_bind (wpAny_sequenceKey ht.typeIs (by decide) ?_)
  refine wpAny_bind (wpAny_callSpecial?_slot (name := Str.ofString "__getitem__") ht.typeIs PyProof.Rows.slot_tuple_getitem
    (wpAny_call_entry PyProof.Rows.slot_tuple_getitem ht.typeIs entry_tuple_getitem ?_ (args_tuple_getitem _ _)))
  show wpAny _ _ (Builtin.Tuple.tupleItemsOf (.ref t) >>= _) _ _ s
  refine wpAny_bind (tupleItemsOf_ ht ?_)
  refine wpAny_bind (wpAny_typeOf hTs ?_)
  rw [if_pos (by decide)]
  refine wpAny_bind (sliceApplied_gen hs pl pu ?_)
  have hno : ¬ ((((sIx items.size 0 lo : Nat) : Int) == 0 && (1 : Int) == 1 && (sIx items.size items.size hi - sIx items.size 0 lo) == items.size) = true) := by
    intro q
    rw [Bool.and_eq_true, Bool.and_eq_true] at q
    have q1 : ((sIx items.size 0 lo : Nat) : Int) = 0 := eq_of_beq q.1.1
    have q2 : sIx items.size items.size hi - sIx items.size 0 lo = items.size := eq_of_beq q.2
    exact hw ⟨by omega, by omega⟩
  show wpAny _ _ (if (((sIx items.size 0 lo : Nat) : Int) == 0 && (1 : Int) == 1 && (sIx items.size items.size hi - sIx items.size 0 lo) == items.size) = true then _ else _) _ _ s
  rw [if_neg hno, pick_gen]
  first
    | exact wpAny_bind (m := Builtin.Tuple.tupleExact _) (wpAny_newObj_type (wpAny_pure ⟨_, rfl, wpAny_pure h⟩) htake)
    | exact wpAny_bind (m := Builtin.Tuple.tupleExact _) (wpAny_newObj_type (wpAny_bind (wpAny_pure (wpAny_pure ⟨_, rfl, wpAny_pure h⟩))) htake)
    | exact wpAny_bind (wpAny_bind (m := Builtin.Tuple.tupleExact _) (wpAny_newObj_type (wpAny_pure (wpAny_pure ⟨_, rfl, wpAny_pure h⟩)) htake))
    | exact wpAny_bind (wpAny_bind (m := Builtin.Tuple.tupleExact _) (wpAny_newObj_type (wpAny_pure ⟨_, rfl, wpAny_pure h⟩) htake))
end
end HT
namespace L2
open PySem PySem.Spec PyProof.Rows
abbrev TO := St → Hp → (Option Int → Hp → Prop) → Prop
def PO (X : Cx) (e : Option Expr) (t : TO) : Prop :=
  ∀ (pins : List (Addr × Obj)) (s : Shared) (σ : St) (H : Hp) (Q : Option Int → Hp → Prop), Inv X pins σ H s → t σ H Q →
    wpAny (model X.prog X.w) X.A (evalPart e X.env) (fun u s' => ∃ o H', Inv X pins σ H' s' ∧ IsPart u o ∧ Q o H') X.xe s
def tNoPart : TO := fun _ H Q => Q none H
def tPart (t : TE) : TO := fun σ H Q => t σ H fun x H1 => ∃ i, x = .int i ∧ Q (some i) H1
section
variable {X : Cx} {e : Expr} {te : TE} {lo hi : Option Expr} {tl th : TO} {pos p2 : Pos}
theorem po_none : PO X none tNoPart := by
  intro pins s σ H Q I h
  rw [evalPart_none]
  exact wpAny_pure ⟨none, H, I, .none, h⟩
theorem po_some (h : PE X e te) : PO X (some e) (tPart te) := by
  intro pins s σ H Q I hw
  rw [evalPart_some]
  refine thn (h pins s σ H _ I hw) fun u s1 ⟨x, H1, I1, r1, q1⟩ => ?_
  obtain ⟨i, rfl, q⟩ := q1
  obtain ⟨t, rfl⟩ := r1
  exact ⟨some i, H1, I1, .int i t, q⟩
def SlR (X : Cx) (r : V → Option Int → Option Int → Hp → VK → Prop) : Prop :=
  ∀ (pins : List (Addr × Obj)) (s : Shared) (σ : St) (H : Hp) (x : V) (v vl vu : Value) (lo hi : Option Int) (sl : Addr) (Q : VK), Inv X pins σ H s → RelV x v → s.heap.IsSliceOf sl vl vu .none → IsPart vl lo → IsPart vu hi → r x lo hi H Q →
    ∃ T id, typeLookup (.type T) "__getitem__" = pure (some (.builtin id)) ∧ s.TypeIs v T ∧ wpAny (model X.prog X.w) X.A (getItem v (.ref sl)) (EP X pins σ Q) X.xe s
def tSl (r : V → Option Int → Option Int → Hp → VK → Prop) (te : TE) (tl th : TO) : TE := fun σ H Q => te σ H fun x H1 => tl σ H1 fun l H2 => th σ H2 fun u H3 => r x l u H3 Q
theorem pe_slice {r : V → Option Int → Option Int → Hp → VK → Prop} (hr : SlR X r) (he : PE X e te) (hl : PO X lo tl) (hu : PO X hi th) : PE X (.Subscript e (.Slice lo hi none p2) pos) (tSl r te tl th) := by
  intro pins s σ H Q I h
  refine Subscript_ (thn (he pins s σ H _ I h) fun v s1 ⟨x, H1, I1, r1, q1⟩ => ?_)
  refine wpAny_Slice (thn (hl pins s1 σ H1 _ I1 q1) fun vl s2 ⟨l, H2, I2, pl, q2⟩ => thn (hu pins s2 σ H2 _ I2 q2) fun vu s3 ⟨u, H3, I3, pu, q3⟩ => ?_)
  rw [evalPart_none]
  refine wpAny_pure ?_
  have I4 : Inv X pins σ H3 { s3 with heap := s3.heap.push { cls := .type "slice", data := .fields #[vl, vu, .none] } } := I3.kept (t' := s3.toks) fun b ob q => Heap.get?_push_of_some _ q
  obtain ⟨T, id, hT, ht, hg⟩ := hr pins { s3 with heap := s3.heap.push { cls := .type "slice", data := .fields #[vl, vu, .none] } } σ H3 x v vl vu l u s3.heap.objs.size Q I4 r1 (Heap.IsSliceOf.new ..) pl pu q3
  show wpAny (model X.prog X.w) X.A (subscriptTail e (.Slice lo hi none p2) v (.ref s3.heap.objs.size)) (EP X pins σ Q) X.xe { s3 with heap := s3.heap.push { cls := .type "slice", data := .fields #[vl, vu, .none] } }
  exact tail_any (ops := [.ref s3.heap.objs.size, v]) ht hT hg (by with_unfolding_all rfl)
def cutV (xs : List V) (lo hi : Option Int) : List V := (xs.drop (HT.sIx xs.length 0 lo)).take (HT.sIx xs.length xs.length hi - HT.sIx xs.length 0 lo)
theorem cutV_length (xs : List V) (lo hi : Option Int) : (cutV xs lo hi).length ≤ xs.length := by
  unfold cutV
  rw [List.length_take, List.length_drop]
  omega
def rSlT (K : PySem.W.Frag) : V → Option Int → Option Int → Hp → VK → Prop := fun x lo hi H Q => ∃ a xs, x = .ref a ∧ SqT K H a xs ∧
  ¬ (HT.sIx xs.length 0 lo = 0 ∧ HT.sIx xs.length xs.length hi = xs.length) ∧ ∀ p, H p = none → Q (.ref p) (upd H p (.tup (cutV xs lo hi)))
theorem sl_tup : SlR X (rSlT X.K) := by
  intro pins s σ H x v vl vu lo hi sl Q I rx hs pl pu h
  obtain ⟨a, xs, rfl, hx, hw, q⟩ := h
  cases rx
  obtain ⟨its, r, ht, hz⟩ := I.tuple hx
  have hlen : its.toArray.size = xs.length := by rw [List.size_toArray]; exact r.length.symm
  refine ⟨"tuple", _, PyProof.Rows.slot_tuple_getitem.lookup, ht.typeIs, ?_⟩
  refine HT.getItem_tuple_cut ht hs pl pu (by rw [hlen]; exact hw) ?_ (by rw [hlen]; exact hz)
  rw [hlen]
  refine ⟨.ref s.heap.objs.size, _, I.laid (t' := s.toks) (o := .tup (cutV xs lo hi)) (fun b ob q => Heap.get?_push_of_some _ q) (Nat.le_refl _) ?_, rfl, q _ (I.hok.fresh (Nat.le_refl _))⟩
  exact ⟨Nat.le_trans (cutV_length xs lo hi) hz, _, (r.drop (HT.sIx xs.length 0 lo)).take (HT.sIx xs.length xs.length hi - HT.sIx xs.length 0 lo), IsTup.new _ _⟩
end
end L2
namespace L2
open PySem PySem.Spec PyProof.Rows
def ixN (n : Nat) (i : Int) : Option Nat := if 0 ≤ i then (if i < n then some i.toNat else none) else if -(n : Int) ≤ i then some (i + n).toNat else none
def atI {α : Type} (xs : List α) (i : Int) : Option α := (ixN xs.length i).bind fun j => xs[j]?
theorem ixN_seq {n : Nat} {i : Int} {j : Nat} (h : ixN n i = some j) : seqIndex? i n = some j ∧ j < n ∧ -(n : Int) ≤ i ∧ i < n := by
  unfold ixN at h
  by_cases h0 : 0 ≤ i
  · rw [if_pos h0] at h
    by_cases h1 : i < n
    · rw [if_pos h1] at h
      have e : i.toNat = j := Option.some.inj h
      exact ⟨by rw [seqIndex_of h0 h1, e], by omega, by omega, h1⟩
    · rw [if_neg h1] at h; cases h
  · rw [if_neg h0] at h
    by_cases h1 : -(n : Int) ≤ i
    · rw [if_pos h1] at h
      have e : (i + n).toNat = j := Option.some.inj h
      exact ⟨by rw [seqIndex_neg (by omega) h1, e], by omega, h1, by omega⟩
    · rw [if_neg h1] at h; cases h
theorem atI_get {α : Type} {xs : List α} {i : Int} {v : α} (h : atI xs i = some v) : ∃ j, seqIndex? i xs.length = some j ∧ xs[j]? = some v ∧ j < xs.length ∧ -(xs.length : Int) ≤ i ∧ i < xs.length := by
  unfold atI at h
  cases e : ixN xs.length i with
  | none => rw [e] at h; cases h
  | some j =>
    rw [e] at h
    obtain ⟨h1, h2, h3, h4⟩ := ixN_seq e
    exact ⟨j, h1, h, h2, h3, h4⟩
theorem atI_nat {α : Type} {xs : List α} {j : Nat} {v : α} (h : xs[j]? = some v) : atI xs (j : Int) = some v := by
  have hj : j < xs.length := (List.getElem?_eq_some_iff.mp h).1
  have e : ixN xs.length (j : Int) = some j := by
    unfold ixN
    rw [if_pos (by omega), if_pos (by omega)]; simp
  unfold atI; rw [e]; exact h
def PlainIx (b : Expr) : Prop := ∀ o i, subscripted b false o i = operate [o, i] (getItem o i)
def IxR (X : Cx) (r : R2) : Prop :=
  ∀ (value slice : Expr) (pins : List (Addr × Obj)) (s : Shared) (σ : St) (H : Hp) (x y : V) (v u : Value) (Q : VK), Inv X pins σ H s → RelV x v → RelV y u → r x y H Q →
    subscripted slice false v u = operate [v, u] (getItem v u) → wpAny (model X.prog X.w) X.A (subscriptTail value slice v u) (EP X pins σ Q) X.xe s
def MtR (X : Cx) (id : String) (r : V → List V → Hp → VK → Prop) : Prop :=
  ∀ (pins : List (Addr × Obj)) (s : Shared) (σ : St) (H : Hp) (x : V) (xs : List V) (v : Value) (us : List Value) (Q : VK), Inv X pins σ H s → RelV x v → Vals xs us → r x xs H Q →
    wpAny (model X.prog X.w) X.A (call (.builtin id) (v :: us)) (EP X pins σ Q) X.xe s
section
variable {X : Cx} {a b : Expr} {ta tb : TE} {pos : Pos}
theorem pe_ix {r : R2} (hr : IxR X r) (ha : PE X a ta) (hb : PE X b tb) (hs : PlainIx b) : PE X (.Subscript a b pos) (tOp r ta tb) := by
  intro pins s σ H Q I h
  exact Subscript_ (binT ha hb I h fun v u s2 x y H2 I2 rx ry q => hr a b pins s2 σ H2 x y v u Q I2 rx ry q (hs _ _))
def rIxL (K : PySem.W.Frag) : R2 := fun x y H Q => ∃ p xs i v, x = .ref p ∧ y = .int i ∧ SqL K H p xs ∧ atI xs i = some v ∧ Q v H
def rIxT (K : PySem.W.Frag) : R2 := fun x y H Q => ∃ p xs i v, x = .ref p ∧ y = .int i ∧ SqT K H p xs ∧ atI xs i = some v ∧ Q v H
def rIxS : R2 := fun x y H Q => ∃ z i c, x = .str z ∧ y = .int i ∧ z.length ≤ sizeLine ∧ atI z.cps.toList i = some c ∧ Q (.str ⟨#[c]⟩) H
theorem ix_list : IxR X (rIxL X.K) := by
  intro value slice pins s σ H x y v u Q I rx ry h hs
  obtain ⟨p, xs, i, z, rfl, rfl, hq, he, q⟩ := h
  cases rx
  obtain ⟨t, rfl⟩ := ry
  obtain ⟨its, r, pl, hz⟩ := I.list hq
  obtain ⟨j, h1, h2, h3, h4, h5⟩ := atI_get he
  obtain ⟨w, ew, rw'⟩ := r.get h2
  have hl := r.length
  have hn := line63
  have fin : EP X pins σ Q w s := ⟨z, H, I, rw', q⟩
  by_cases h0 : 0 ≤ i
  · have hj : i.toNat = j := by
      rw [seqIndex_of h0 h5] at h1
      exact Option.some.inj h1
    exact item_listR pl.isList h0 (by omega) (by rw [hj]; simpa using ew) fin hs
  · have hj : (i + (its.toArray.size : Int)).toNat = j := by
      rw [seqIndex_neg (by omega) h4] at h1
      rw [List.size_toArray, ← hl]
      exact Option.some.inj h1
    exact subscriptTail_builtinR (x := w) pl.isList.typeIs slot_list_getitem.lookup
      (wpAny_getItem_list_neg (Q := fun r s' => r = w ∧ EP X pins σ Q r s') pl.isList (by omega) (by rw [List.size_toArray] <;> omega) (by omega) (by rw [hj]; simpa using ew) ⟨rfl, fin⟩) hs
theorem ix_tup : IxR X (rIxT X.K) := by
  intro value slice pins s σ H x y v u Q I rx ry h hs
  obtain ⟨p, xs, i, z, rfl, rfl, hq, he, q⟩ := h
  cases rx
  obtain ⟨t, rfl⟩ := ry
  obtain ⟨its, r, pl, hz⟩ := I.tuple hq
  obtain ⟨j, h1, h2, h3, h4, h5⟩ := atI_get he
  obtain ⟨w, ew, rw'⟩ := r.get h2
  have hl := r.length
  have hn := line63
  have fin : EP X pins σ Q w s := ⟨z, H, I, rw', q⟩
  exact subscriptTail_builtinR (x := w) pl.typeIs slot_tuple_getitem.lookup
    (getItem_tuple (j := j) (Q := fun r s' => r = w ∧ EP X pins σ Q r s') pl (by omega) (by omega) (by rw [List.size_toArray, ← hl]; exact h1) (by simpa using ew) ⟨rfl, fin⟩) hs
theorem ix_str : IxR X rIxS := by
  intro value slice pins s σ H x y v u Q I rx ry h hs
  obtain ⟨z, i, c, rfl, rfl, hz, he, q⟩ := h
  obtain ⟨t, rfl⟩ := rx
  obtain ⟨t', rfl⟩ := ry
  obtain ⟨j, h1, h2, h3, h4, h5⟩ := atI_get he
  have hl : z.cps.toList.length = z.length := by simp [Str.length]
  rw [hl] at h1 h4 h5
  have hn := line63
  exact tail_any (typeIs_str s z t) slot_str_getitem.lookup (getItem_str (c := c) (by
    have e1 : decide (i < -(2 ^ 63 : Int)) = false := decide_eq_false (by omega)
    have e2 : decide (i ≥ 2 ^ 63) = false := decide_eq_false (by omega)
    rw [e1, e2, Bool.or_false]) (by rw [h1]; simpa using h2) ⟨.str ⟨#[c]⟩, H, I.tok _, ⟨_, rfl⟩, q⟩) hs
theorem slice_bounds (lo hi : Option Int) (n : Nat) : (sliceBounds lo hi none n).1 = ((HT.sIx n 0 lo : Nat) : Int) ∧ (sliceBounds lo hi none n).2.1 = ((HT.sIx n n hi : Nat) : Int) ∧ (sliceBounds lo hi none n).2.2 = 1 := by
  refine ⟨?_, ?_, rfl⟩
  · cases lo with
    | none => simp [sliceBounds, HT.sIx]
    | some i =>
      simp only [sliceBounds, HT.sIx, Option.getD_none, show (1 : Int) > 0 by decide, if_true]
      by_cases h : i < 0
      · simp only [h, if_true] <;> omega
      · simp only [h, if_false] <;> omega
  · cases hi with
    | none => simp [sliceBounds, HT.sIx]
    | some i =>
      simp only [sliceBounds, HT.sIx, Option.getD_none, show (1 : Int) > 0 by decide, if_true]
      by_cases h : i < 0
      · simp only [h, if_true] <;> omega
      · simp only [h, if_false] <;> omega
theorem slicePick_cut (its : List Value) (lo hi : Option Int) : slicePick its.toArray lo hi none = ((its.drop (HT.sIx its.length 0 lo)).take (HT.sIx its.length its.length hi - HT.sIx its.length 0 lo)).toArray := by
  obtain ⟨h1, h2, h3⟩ := slice_bounds lo hi its.toArray.size
  unfold slicePick
  rw [h1, h2, h3]
  simp only [sliceRange_one, pick_run, List.size_toArray] <;> rfl
def rSlL (K : PySem.W.Frag) : V → Option Int → Option Int → Hp → VK → Prop := fun x lo hi H Q => ∃ a xs, x = .ref a ∧ SqL K H a xs ∧ ∀ p, H p = none → Q (.ref p) (upd H p (.lst (cutV xs lo hi)))
theorem sl_list : SlR X (rSlL X.K) := by
  intro pins s σ H x v vl vu lo hi sl Q I rx hs pl pu h
  obtain ⟨a, xs, rfl, hx, q⟩ := h
  cases rx
  obtain ⟨its, r, ht, hz⟩ := I.list hx
  have hlen := r.length
  refine ⟨"list", _, slot_list_getitem.lookup, ht.isList.typeIs, ?_⟩
  refine wpAny_getItem_list_slice ht.isList hs pl pu .none (by simp) ?_ (by rw [List.size_toArray] <;> omega)
  rw [slicePick_cut, ← hlen]
  refine ⟨.ref s.heap.objs.size, _, I.laid (t' := s.toks) (o := .lst (cutV xs lo hi)) (fun b ob q => Heap.get?_push_of_some _ q) (Nat.le_refl _) ?_, rfl, q _ (I.hok.fresh (Nat.le_refl _))⟩
  exact ⟨Nat.le_trans (cutV_length xs lo hi) hz, _, 0, (r.drop (HT.sIx xs.length 0 lo)).take (HT.sIx xs.length xs.length hi - HT.sIx xs.length 0 lo), Heap.get?_push_size _ rfl⟩
def flatV : V → Bool
  | .non => true
  | .bl _ => true
  | .int _ => true
  | .str _ => true
  | _ => false
def eqV : V → V → Bool
  | .non, .non => true
  | .bl a, .bl b => a == b
  | .bl a, .int b => (if a then 1 else 0) == b
  | .int a, .bl b => a == (if b then 1 else 0)
  | .int a, .int b => a == b
  | .str a, .str b => a == b
  | _, _ => false
theorem eqAt_V {A : Around} {s : Shared} {y x : V} {u v : Value} (ry : RelV y u) (rx : RelV x v) (fy : flatV y = true) (fx : flatV x = true) : SeqAt.EqAt A s u v (eqV y x) := by
  cases y with
  | non =>
    cases ry
    cases x with
    | non => cases rx; exact SeqAt.EqAt.same _
    | bl b => cases rx; exact SeqAt.EqAt.none_bool b
    | int b => obtain ⟨t, rfl⟩ := rx; exact SeqAt.EqAt.none_int b t
    | str b => obtain ⟨t, rfl⟩ := rx; exact SeqAt.EqAt.none_str b t
    | _ => exact absurd (show false = true from fx) Bool.false_ne_true
  | bl a =>
    cases ry
    cases x with
    | non => cases rx; exact SeqAt.EqAt.bool_none a
    | bl b => cases rx; exact SeqAt.EqAt.bool_bool a b
    | int b => obtain ⟨t, rfl⟩ := rx; exact SeqAt.EqAt.bool_int a b t
    | str b => obtain ⟨t, rfl⟩ := rx; exact SeqAt.EqAt.bool_str a b t
    | _ => exact absurd (show false = true from fx) Bool.false_ne_true
  | int a =>
    obtain ⟨t', rfl⟩ := ry
    cases x with
    | non => cases rx; exact SeqAt.EqAt.int_none a t'
    | bl b => cases rx; exact SeqAt.EqAt.int_bool a t' b
    | int b => obtain ⟨t, rfl⟩ := rx; exact SeqAt.EqAt.int_int a t' b t
    | str b => obtain ⟨t, rfl⟩ := rx; exact SeqAt.EqAt.int_str a t' b t
    | _ => exact absurd (show false = true from fx) Bool.false_ne_true
  | str a =>
    obtain ⟨t', rfl⟩ := ry
    cases x with
    | non => cases rx; exact SeqAt.EqAt.str_none a t'
    | bl b => cases rx; exact SeqAt.EqAt.str_bool a t' b
    | int b => obtain ⟨t, rfl⟩ := rx; exact SeqAt.EqAt.str_int a t' b t
    | str b => obtain ⟨t, rfl⟩ := rx; exact SeqAt.EqAt.str_str a t' b t
    | _ => exact absurd (show false = true from fx) Bool.false_ne_true
  | _ => exact absurd (show false = true from fy) Bool.false_ne_true
def eqU (x : V) (u : Value) : Bool := match u with
  | .none => eqV .non x
  | .bool b => eqV (.bl b) x
  | .int i _ => eqV (.int i) x
  | .str z _ => eqV (.str z) x
  | _ => false
theorem eqU_of {x y : V} {u : Value} (r : RelV y u) (f : flatV y = true) : eqU x u = eqV y x := by
  cases y with
  | non => cases r; rfl
  | bl b => cases r; rfl
  | int i => obtain ⟨t, rfl⟩ := r; rfl
  | str z => obtain ⟨t, rfl⟩ := r; rfl
  | _ => exact absurd (show false = true from f) Bool.false_ne_true
theorem any_eqU {x : V} : ∀ {xs : List V} {us : List Value}, Vals xs us → xs.all flatV = true → us.any (eqU x) = xs.any fun y => eqV y x
  | _, _, .nil, _ => rfl
  | y :: xs, u :: us, .cons r t, f => by
    rw [List.all_cons, Bool.and_eq_true] at f
    rw [List.any_cons, List.any_cons, eqU_of r f.1, any_eqU t f.2]
theorem mem_eqAt {A : Around} {s : Shared} {x : V} {v : Value} (rx : RelV x v) (fx : flatV x = true) : ∀ {xs : List V} {us : List Value}, Vals xs us → xs.all flatV = true → ∀ u ∈ us, SeqAt.EqAt A s u v (eqU x u)
  | _, _, .nil, _ => fun u hu => by cases hu
  | y :: xs, u :: us, .cons r t, f => fun u' hu => by
    rw [List.all_cons, Bool.and_eq_true] at f
    rcases List.mem_cons.mp hu with rfl | hu
    · rw [eqU_of r f.1]; exact eqAt_V r rx f.1 fx
    · exact mem_eqAt rx fx t f.2 u' hu
def inV (x : V) (xs : List V) : Bool := xs.any fun y => eqV y x
def rIn (K : PySem.W.Frag) (neg : Bool) : R2 := fun x y H Q => ∃ p xs, y = .ref p ∧ (SqL K H p xs ∨ SqT K H p xs) ∧ flatV x = true ∧ xs.all flatV = true ∧ Q (.bl (if neg then !inV x xs else inV x xs)) H
theorem op_in_seq : OpR X (compareOp .In) (rIn X.K false) := by
  intro pins s σ H x y v u Q I rx ry h
  obtain ⟨p, xs, rfl, hq, fx, fs, q⟩ := h
  cases ry
  rcases hq with hq | hq
  · obtain ⟨its, r, pl, hz⟩ := I.list hq
    refine SeqAt.in_listAt (eqU x) pl.isList (fun w hw => mem_eqAt rx fx r fs w (by simpa using hw)) ⟨.bl _, H, I, rfl, ?_⟩
    rw [show its.toArray.any (eqU x) = its.any (eqU x) by simp, any_eqU r fs]
    exact q
  · obtain ⟨its, r, pl, hz⟩ := I.tuple hq
    refine SeqAt.in_tupleAt (eqU x) pl (fun w hw => mem_eqAt rx fx r fs w (by simpa using hw)) ⟨.bl _, H, I, rfl, ?_⟩
    rw [show its.toArray.any (eqU x) = its.any (eqU x) by simp, any_eqU r fs]
    exact q
theorem call_len_seq : CallR X (.builtin "len") (fun xs H Q => ∃ p ys, xs = [.ref p] ∧ (SqL X.K H p ys ∨ SqT X.K H p ys) ∧ Q (.int ys.length) H) := by
  intro pins s σ H xs us Q I r h
  obtain ⟨p, ys, rfl, hq, q⟩ := h
  obtain ⟨u, rfl, rx⟩ := vals1 r
  cases rx
  have hn := line63
  rcases hq with hq | hq
  · obtain ⟨its, r', pl, hz⟩ := I.list hq
    have hlen := r'.length
    exact Calls.call_len_list pl.isList (by simp only [List.size_toArray] <;> omega) ⟨.int ys.length, H, I.tok _, ⟨s.toks + 1, by rw [List.size_toArray, hlen]⟩, q⟩
  · obtain ⟨its, r', pl, hz⟩ := I.tuple hq
    have hlen := r'.length
    exact len_tuple pl (by simp only [List.size_toArray] <;> omega) ⟨.int ys.length, H, I.tok _, ⟨s.toks + 1, by rw [List.size_toArray, hlen]⟩, q⟩
theorem call_len_str : CallR X (.builtin "len") (fun xs H Q => ∃ z, xs = [.str z] ∧ z.length ≤ sizeLine ∧ Q (.int z.length) H) := by
  intro pins s σ H xs us Q I r h
  obtain ⟨z, rfl, hz, q⟩ := h
  obtain ⟨u, rfl, t, rfl⟩ := vals1 r
  have hn := line63
  exact len_str (by omega) ⟨.int z.length, H, I.tok _, ⟨_, rfl⟩, q⟩
theorem call_list_of : CallR X (.type "list") (fun xs H Q => ∃ p ys, xs = [.ref p] ∧ (SqL X.K H p ys ∨ SqT X.K H p ys) ∧ ∀ l, H l = none → Q (.ref l) (upd H l (.lst ys))) := by
  intro pins s σ H xs us Q I r h
  obtain ⟨p, ys, rfl, hq, q⟩ := h
  obtain ⟨u, rfl, rx⟩ := vals1 r
  cases rx
  have fin : ∀ (its : List Value), Vals ys its → ys.length ≤ sizeLine → ∀ (h' : Heap) (c' : Nat), (∀ b o', s.heap.get? b = some o' → h'.get? b = some o') →
      h'.get? s.heap.objs.size = some { cls := .type "list", dict := none, data := .seq its.toArray c', slots := #[] } → EP X pins σ Q (.ref s.heap.objs.size) { s with heap := h' } := fun its r' hz h' c' kp e =>
    ⟨.ref s.heap.objs.size, _, I.laid (t' := s.toks) kp (Nat.le_refl _) (show ObjOk X.prog X.w _ h' _ (.lst ys) from ⟨hz, its, c', r', e⟩), rfl, q _ (I.hok.fresh (Nat.le_refl _))⟩
  rcases hq with hq | hq
  · obtain ⟨its, r', pl, hz⟩ := I.list hq
    have hlen := r'.length
    obtain ⟨o, ho, hc, n, hd⟩ := pl.isList
    exact call_list_seq p (.inl rfl) ho hc hd (fun h' c' kp e => fin its r' hz h' c' kp e) (by simp only [List.size_toArray] <;> omega)
  · obtain ⟨its, r', pl, hz⟩ := I.tuple hq
    have hlen := r'.length
    obtain ⟨o, ho, hc, n, hd⟩ := pl
    exact call_list_seq p (.inr rfl) ho hc hd (fun h' c' kp e => fin its r' hz h' c' kp e) (by simp only [List.size_toArray] <;> omega)
def tyV (K : PySem.W.Frag) (T : String) (x : V) (H : Hp) : Prop := match x with
  | .str _ => T = "str"
  | .int _ => T = "int"
  | .ref p => (T = "list" ∧ ∃ xs, SqL K H p xs) ∨ (T = "tuple" ∧ ∃ o, K.lookup p = some o ∧ o.cls = .type "tuple" ∧ o.dict = none) ∨
      (T = "dict" ∧ ((∃ kvs, H p = some (.dK kvs)) ∨ ∃ kvs, H p = some (.dT kvs))) ∨ (T = "set" ∧ ∃ S n, H p = some (.set S n))
  | _ => False
theorem tyV_is {pins : List (Addr × Obj)} {σ : St} {H : Hp} {s : Shared} {T : String} {x : V} {v : Value} (I : Inv X pins σ H s) (r : RelV x v) (ty : tyV X.K T x H) :
    s.TypeIs v T ∧ ∀ a, v = .ref a → ∃ ob, s.heap.get? a = some ob ∧ ob.dict = none := by
  cases x with
  | str z =>
    obtain ⟨t, rfl⟩ := r
    cases (show T = "str" from ty)
    exact ⟨typeIs_str s z t, fun _ e => nomatch e⟩
  | int i =>
    obtain ⟨t, rfl⟩ := r
    cases (show T = "int" from ty)
    exact ⟨typeIs_int s i t, fun _ e => nomatch e⟩
  | ref p =>
    cases r
    rcases ty with ⟨rfl, xs, hq⟩ | ⟨rfl, o, hk, hc, hd⟩ | ⟨rfl, hk⟩ | ⟨rfl, S, n, hk⟩
    · obtain ⟨its, _, pl, _⟩ := I.list hq
      refine ⟨pl.isList.typeIs, fun a e => ?_⟩
      cases e
      obtain ⟨o, n, e, c, hd, _⟩ := pl
      exact ⟨o, e, hd⟩
    · refine ⟨⟨o, I.kIn p o hk, hc⟩, fun a e => ?_⟩
      cases e
      exact ⟨o, I.kIn _ o hk, hd⟩
    · have z : ∃ o, s.heap.get? p = some o ∧ o.ExactDict := by
        rcases hk with ⟨kvs, hk⟩ | ⟨kvs, hk⟩
        · obtain ⟨_, _, _, _, o, _, _, e, ex, _⟩ := I.hok p _ hk
          exact ⟨o, e, ex⟩
        · obtain ⟨_, _, _, _, o, _, _, e, ex, _⟩ := I.hok p _ hk
          exact ⟨o, e, ex⟩
      obtain ⟨o, e, ex⟩ := z
      refine ⟨⟨o, e, ex.1⟩, fun a e2 => ?_⟩
      cases e2
      exact ⟨o, e, ex.2.1⟩
    · obtain ⟨o, _, _, _, e, ex, _⟩ := I.hok p _ hk
      refine ⟨⟨o, e, ex.1⟩, fun a e2 => ?_⟩
      cases e2
      exact ⟨o, e, ex.2.1⟩
  | _ => exact False.elim ty
def tBM0 (K : PySem.W.Frag) (T : String) (r : V → List V → Hp → VK → Prop) (to : TE) : TE := fun σ H Q => to σ H fun x H1 => tyV K T x H1 ∧ r x [] H1 Q
def tBM (K : PySem.W.Frag) (T : String) (r : V → List V → Hp → VK → Prop) (to : TE) (t : TA) : TE := fun σ H Q => to σ H fun x H1 => tyV K T x H1 ∧ t σ H1 fun xs H2 => r x xs H2 Q
variable {o e : Expr} {es : List Expr} {to : TE} {t : TA} {name : Str} {apos cpos : Pos} {T id : String} {r : V → List V → Hp → VK → Prop}
theorem pe_bm0 (pa : PlainAttrs T) (slot : Slot T name id) (hty : typeOf (.builtin id) = pure (.type "method_descriptor")) (hm : MtR X id r) (ho : PE X o to)
    (hbase : attributeBase o name X.env (eval o X.env) = eval o X.env := by rfl) (hline : (apos.endLine == cpos.line) = true := by rfl) : PE X (.Call (.Attribute o name apos) [] [] cpos) (tBM0 X.K T r to) := by
  intro pins s σ H Q I h
  refine wpAny_Call_method0_late hbase hline (thn (ho pins s σ H _ I h) fun v s1 ⟨x, H1, I1, r1, ty, q1⟩ => ?_)
  obtain ⟨h1, h2⟩ := tyV_is I1 r1 ty
  exact ⟨T, id, pa, slot, hty, h1, h2, Calls.callWith_builtin rfl (PySem.evalArgs_none (hm pins s1 σ H1 x [] v [] Q I1 r1 .nil q1))⟩
theorem pe_bm (pa : PlainAttrs T) (slot : Slot T name id) (hty : typeOf (.builtin id) = pure (.type "method_descriptor")) (hm : MtR X id r) (ho : PE X o to) (ha : PA X (e :: es) t)
    (hbase : attributeBase o name X.env (eval o X.env) = eval o X.env := by rfl)
    (hfew : ((backTo cpos (starEach (e :: es) X.env)).all (fun x => !x.1) && (backToKw cpos (keywordEach [] X.env)).all (fun x => x.1.isSome)
      && decide ((e :: es).length + ([] : List Keyword).length + (if ([] : List Keyword).isEmpty then 0 else 1) < 30)) = true := by rfl)
    (hline : (apos.endLine == cpos.line) = true := by rfl) (hs : starEach (e :: es) X.env = (false, eval e X.env) :: starEach es X.env := by rfl) (hplain : (backTo cpos (starEach es X.env)).any (·.1) = false := by rfl) :
    PE X (.Call (.Attribute o name apos) (e :: es) [] cpos) (tBM X.K T r to t) := by
  intro pins s σ H Q I h
  refine wpAny_Call_method_late hbase hfew hline rfl (thn (ho pins s σ H _ I h) fun v s1 ⟨x, H1, I1, r1, ty, q1⟩ => ?_)
  obtain ⟨h1, h2⟩ := tyV_is I1 r1 ty
  refine ⟨T, id, pa, slot, hty, h1, h2, ?_⟩
  have hA := ha cpos pins s1 σ H1 _ I1 q1
  rw [hs] at hA ⊢
  refine Calls.callWith_builtin (by show (false || (backTo cpos (starEach es X.env)).any (·.1)) = false; rw [hplain] <;> rfl) (Calls.evalArgs_plain ?_)
  exact thn hA fun us s2 ⟨vs, H2, I2, r2, q2⟩ => hm pins s2 σ H2 x vs v us Q I2 r1 r2 q2
/- xs.append(e), list.index on a module's tuple .. are MtR facts of 06m -/
end
end L2
namespace L2
open PySem PySem.Spec PyProof.Rows
def MtM (X : Cx) (id : String) (r : V → List V → Hp → VK → Prop) : Prop :=
  ∀ (pins : List (Addr × Obj)) (s : Shared) (σ : St) (H : Hp) (x : V) (xs : List V) (v : Value) (us : List Value) (Q : VK), Inv X pins σ H s → RelV x v → Vals xs us → r x xs H Q →
    wpAny (model X.prog X.w) X.A (call (.builtin id) (v :: us)) (EP X pins σ Q) X.xe s
theorem Vals.one : ∀ {x : V} {us : List Value}, Vals [x] us → ∃ u, us = [u] ∧ RelV x u
  | _, _, .cons r .nil => ⟨_, rfl, r⟩
theorem Vals.zero : ∀ {us : List Value}, Vals [] us → us = []
  | _, .nil => rfl
theorem Vals.eraseIdx : ∀ {xs : List V} {us : List Value} (i : Nat), Vals xs us → Vals (xs.eraseIdx i) (us.eraseIdx i)
  | _, _, _, .nil => .nil
  | _, _, 0, .cons _ t => t
  | _, _, i + 1, .cons r t => .cons r (Vals.eraseIdx i t)
theorem Vals.reverse {xs : List V} {us : List Value} (h : Vals xs us) : Vals xs.reverse us.reverse := by
  induction h with
  | nil => exact .nil
  | cons r t ih => rw [List.reverse_cons, List.reverse_cons]; exact Vals.append ih (.cons r .nil)
theorem len_erase {α : Type} : ∀ (l : List α) (i : Nat), (l.eraseIdx i).length ≤ l.length
  | [], _ => Nat.le_refl _
  | _ :: _, 0 => Nat.le_succ _
  | _ :: r, i + 1 => Nat.succ_le_succ (len_erase r i)
section
variable {X : Cx} {pins : List (Addr × Obj)} {σ : St} {H : Hp} {s : Shared} {l b : Addr} {xs ys zs : List V}
theorem Inv.lset {its its' : List Value} {n : Nat} {f : Array Value → Array Value} {t' : Nat} (I : Inv X pins σ H s) (hH : H l = some (.lst xs))
    (e : s.heap.get? l = some { cls := .type "list", data := .seq its.toArray n }) (hf : f its.toArray = its'.toArray) (hv : Vals ys its') (hz : ys.length ≤ sizeLine) :
    Inv X pins σ (upd H l (.lst ys)) { s with heap := s.heap.update l (Obj.mapSeq f), toks := t' } := by
  have q := PySem.IsL.update e f
  rw [hf] at q
  refine I.write (x := l) (e := l) (by rw [hH]; exact trivial) (.inl rfl) (fun b' u hb hu => (Heap.get?_update_other s.heap (Obj.mapSeq f) (Ne.symm hb)).trans hu) ⟨_, q⟩ ?_
  exact ⟨hz, its', _, hv, q⟩
theorem Inv.lnew {its : List Value} {t' : Nat} (I : Inv X pins σ H s) (hv : Vals ys its) (hz : ys.length ≤ sizeLine) :
    Inv X pins σ (upd H s.heap.objs.size (.lst ys)) { s with heap := s.heap.push { cls := .type "list", data := .seq its.toArray }, toks := t' } :=
  I.laid (fun _ _ q => Heap.get?_push_of_some _ q) (Nat.le_refl _) ⟨hz, its, 0, hv, Heap.get?_push_size _ rfl⟩
theorem Inv.fresh (I : Inv X pins σ H s) : H s.heap.objs.size = none := I.hok.fresh (Nat.le_refl _)
theorem Inv.lstM (I : Inv X pins σ H s) (hH : H l = some (.lst xs)) : xs.length ≤ sizeLine ∧ ∃ (its : List Value) (n : Nat), Vals xs its ∧ xs.length = its.length ∧ s.heap.get? l = some { cls := .type "list", data := .seq its.toArray n } := by
  obtain ⟨z, its, n, r, e⟩ := I.hok l _ hH
  exact ⟨z, its, n, r, r.length, e⟩
theorem notLongL {n : Nat} (h : n ≤ sizeLine) : Builtin.List.listTooLong n = false := by
  unfold Builtin.List.listTooLong
  exact decide_eq_false (by omega)
end
section
variable {X : Cx}
def rAppend : V → List V → Hp → VK → Prop := fun x vs H Q => ∃ l xs y, x = .ref l ∧ vs = [y] ∧ H l = some (.lst xs) ∧ xs.length < sizeLine ∧ Q .non (upd H l (.lst (xs ++ [y])))
theorem mt_append : MtM X "list.append" rAppend := by
  intro pins s σ H x vs v us Q I rx rv h
  obtain ⟨l, xs, y, rfl, rfl, hH, hz, q⟩ := h
  cases rx
  obtain ⟨u, rfl, ru⟩ := rv.one
  obtain ⟨z, its, n, r, hl, e⟩ := I.lstM hH
  refine call_meets F.slot_list_append ⟨_, e, rfl⟩ F.entry_list_append (F.args_list_append_2 _ _) (PySem.list_append l its.toArray n u (by rw [List.size_toArray]; omega)) ⟨e, ?_⟩
  refine ⟨.non, _, I.lset (its' := its ++ [u]) hH e (by simp) (r.append (.cons ru .nil)) ?_, rfl, q⟩
  rw [List.length_append, List.length_singleton]
  omega
def rPopAt : V → List V → Hp → VK → Prop := fun x vs H Q => ∃ l xs i k y, x = .ref l ∧ vs = [.int i] ∧ H l = some (.lst xs) ∧ -(2 ^ 63) ≤ i ∧ i < 2 ^ 63 ∧ seqIndex? i xs.length = some k ∧ xs[k]? = some y ∧ Q y (upd H l (.lst (xs.eraseIdx k)))
theorem mt_popAt : MtM X "list.pop" rPopAt := by
  intro pins s σ H x vs v us Q I rx rv h
  obtain ⟨l, xs, i, k, y, rfl, rfl, hH, h1, h2, hk, hy, q⟩ := h
  cases rx
  obtain ⟨u, rfl, ru⟩ := rv.one
  obtain ⟨t, rfl⟩ := ru
  obtain ⟨z, its, n, r, hl, e⟩ := I.lstM hH
  obtain ⟨w, hw, rw'⟩ := r.get hy
  refine call_meets F.slot_list_pop ⟨_, e, rfl⟩ F.entry_list_pop (F.args_list_pop_2 _ _)
    (MeetsSeq.list_pop_at l its.toArray n i t k w (fitsIndex_both h1 h2) (by rw [List.size_toArray, ← hl]; exact hk) (by rw [← Array.getElem?_toList]; exact hw) (by rw [List.size_toArray]; omega)) ⟨e, ?_⟩
  refine ⟨y, _, I.lset (its' := its.eraseIdx k) hH e ?_ (r.eraseIdx k) ?_, rw', q⟩
  · show its.toArray.eraseIdxIfInBounds k = (its.eraseIdx k).toArray
    rw [List.eraseIdxIfInBounds_toArray]
  · have := len_erase xs k
    omega
def rReverse : V → List V → Hp → VK → Prop := fun x vs H Q => ∃ l xs, x = .ref l ∧ vs = [] ∧ H l = some (.lst xs) ∧ Q .non (upd H l (.lst xs.reverse))
theorem mt_reverse : MtM X "list.reverse" rReverse := by
  intro pins s σ H x vs v us Q I rx rv h
  obtain ⟨l, xs, rfl, rfl, hH, q⟩ := h
  cases rx
  have hus := rv.zero
  subst hus
  obtain ⟨z, its, n, r, hl, e⟩ := I.lstM hH
  refine call_meets F.slot_list_reverse ⟨_, e, rfl⟩ F.entry_list_reverse (F.args_list_reverse_1 _) (AutoSeq1.list_reverse_list_0 l its.toArray n (by rw [List.size_toArray]; omega)) ⟨e, ?_⟩
  refine ⟨.non, _, I.lset (its' := its.reverse) hH e (by simp) r.reverse ?_, rfl, q⟩
  rw [List.length_reverse]
  omega
def rCat : R2 := fun x y H Q => ∃ l b xs zs, x = .ref l ∧ y = .ref b ∧ H l = some (.lst xs) ∧ H b = some (.lst zs) ∧ xs.length + zs.length ≤ sizeLine ∧ ∀ p, H p = none → Q (.ref p) (upd H p (.lst (xs ++ zs)))
theorem op_cat : OpR X (binaryOp .Add) rCat := by
  intro pins s σ H x y v u Q I rx ry h
  obtain ⟨l, b, xs, zs, rfl, rfl, hH, hB, hz, q⟩ := h
  cases rx
  cases ry
  obtain ⟨z, its, n, r, hl, e⟩ := I.lstM hH
  obtain ⟨z2, its2, n2, r2, hl2, e2⟩ := I.lstM hB
  refine PySem.P.add_list e e2 ?_ (by rw [List.size_toArray, List.size_toArray]; omega)
  have ea : its.toArray ++ its2.toArray = (its ++ its2).toArray := by simp
  rw [ea]
  exact ⟨.ref _, _, I.lnew (t' := s.toks) (r.append r2) (by rw [List.length_append]; omega), rfl, q _ I.fresh⟩
end
section
variable {prog : Program} {w : World} {A : Around} {E : Value → Shared → Prop} {s : Shared}
set_option maxRecDepth 100000 in
end
section
variable {X : Cx}
end
end L2
namespace Att
open PySem PySem.W PySem.Calls PyProof.Rows
theorem ints_of_wellAll {P : Params} {h : Heap} : ∀ (ns : List Int) (vs : List Value), WellAll P h vs (ns.map WData.int) → IntsAre vs ns := by
  intro ns
  induction ns with
  | nil =>
    intro vs w
    rw [List.map_nil] at w
    cases w
    exact .nil
  | cons n ns ih =>
    intro vs w
    rw [List.map_cons] at w
    cases w with
    | cons a b =>
      cases a
      exact .cons _ _ (ih _ b)
theorem script_of {l : OpenLaw} {n : Nat} (hn : l.most = some n) {P : Params} {h : Heap} {args : List WData} {vals : List Value}
    (hpre : l.row.toRowW.claim.pre args = true) (hwl : WellAll P h vals args) :
    ∃ a vs ns, vals = [Value.ref a] ∧ args = [WData.list (ns.map WData.int)] ∧ h.get? a = some { cls := .type "list", data := .seq vs.toArray } ∧ IntsAre vs ns ∧ ns.length ≤ n := by
  have hsh : WShape.hasAll [] args [.list .int] = true := (pre_splitW hpre).1
  have hc : l.pre.holds [] { args := args } = true := (pre_splitW hpre).2
  obtain ⟨d, r, rfl, h1, h2⟩ := hasAllW_cons hsh
  obtain rfl := hasAllW_nil h2
  obtain ⟨xs, rfl, h3⟩ := hasW_list h1
  obtain ⟨ns, rfl⟩ := items_int h3
  have hlen : ns.length ≤ n := by
    unfold OpenLaw.pre at hc
    have h4 : (WTm.not (.lt (.lit (.int (n : Int))) (.len (.arg 0)))).holds [] { args := [.list (ns.map .int)] } = true := by
      have h4 := (holds_andW hc).1
      rw [hn] at h4
      exact h4
    have h5 := condW_of h4 (w_not (w_lt w_lit (w_len_list (w_arg rfl))))
    rw [List.length_map] at h5
    refine Nat.le_of_not_lt fun q => ?_
    have q' : (n : Int) < ((ns.length : Nat) : Int) := by omega
    first
      | (rw [decide_eq_true q'] at h5; exact absurd h5 (by decide))
      | (simp at h5; omega)
  cases hwl with
  | cons w1 w2 =>
    cases w2
    cases w1 with
    | list ho hall => exact ⟨_, _, ns, rfl, rfl, ho, ints_of_wellAll ns _ hall, hlen⟩
theorem post_true (l : OpenLaw) (args : List WData) : l.row.toRowW.claim.post args (.bool true) args = true :=
  postW_of (r := l.row.toRowW) (X := (true == true))
    (show WShape.has [] (.bool true) .bool = true by first | rfl | decide | simp [WShape.has, WShape.arms, WShape.armsAll])
    (show (WTm.eq .res (.lit (.bool true))).value [] { args := args, res := some (.bool true), after := args } = some (.bool (true == true)) from w_eq_bool (w_res rfl) w_lit) rfl
section
variable {prog : Program} {w : World} {A : Around} {E : Value → Shared → Prop} {s : Shared} {K : Frag}
end
end Att
namespace L2
open PySem PySem.Spec PyProof.Rows
theorem vals_ints : ∀ {vs : List Value} {ns : List Int}, IntsAre vs ns → Vals (ns.map V.int) vs
  | _, _, .nil => .nil
  | _, _, .cons n t h => .cons ⟨t, rfl⟩ (vals_ints h)
end L2
namespace L2
open PySem PySem.Spec PyProof.Rows
end L2
/- THE LAST THEOREM (shape; LID, My.* are yours):
   My.Adr: a structure of the addresses that your layer names (classes, functions); My.Txt K t: a structure (Prop) of the equations over K;
   My.txt_mk : {K} {implicit addresses ..} (e1 : nsIn K mainGlobals "law" = some (some (.ref f))) (e2 : K.lookup f = some ⟨oc, od, .func (fnOf "law" "law" params body scope dV kV doc pm an cdv ct), sl⟩) (e3 : codeIn K cdv "law" = true) .. : ∃ t, My.Txt K t
set_option maxRecDepth 100000 in
set_option maxHeartbeats 0 in
(the tactic k_is has no namespace: write k_is) -/
namespace L2
open PySem PySem.Spec PyProof.Rows
def inClass (s : Stmt) (j : Nat) : Stmt := match s with
  | .ClassDef _ _ _ body _ _ _ _ _ _ _ => body.getD j (.Pass ⟨0, 0, 0, 0⟩)
  | _ => .Pass ⟨0, 0, 0, 0⟩
def defArgs (s : Stmt) : Arguments := match s with
  | .FunctionDef _ a _ _ _ _ _ _ _ _ => a
  | _ => { posonlyargs := [], args := [], vararg := none, kwonlyargs := [], kw_defaults := [], kwarg := none, defaults := [] }
def defBody (s : Stmt) : List Stmt := match s with
  | .FunctionDef _ _ b _ _ _ _ _ _ _ => b
  | _ => []
def defScope (s : Stmt) : Scope := match s with
  | .FunctionDef _ _ _ _ _ _ sc _ _ _ => sc
  | _ => { kind := .function, names := [], isGenerator := false, isCoroutine := false }
abbrev E0 : XK := fun _ _ _ => False
structure Fun (K : PySem.W.Frag) (x qual : Str) (st : Stmt) (f : Addr) (fd : FuncData) : Prop where
  ex : ∃ (oc : Value) (od : Option Addr) (kV doc pm : Value) (an : Option Addr) (cdv ct : Value) (osl : Array (Option Value)),
    fd = PySem.W.fnOf x qual (defArgs st) (defBody st) (defScope st) .none kV doc pm an cdv ct ∧ K.lookup f = some ⟨oc, od, .func fd, osl⟩ ∧ PySem.W.codeIn K cdv qual = true
  kp : PySem.W.keepIn K (.ref f) = true
section
variable {P : Program} {w : World} {K : PySem.W.Frag} {mg : Str → Option Value} {base : Heap}
theorem Fun.binds {x qual : Str} {st : Stmt} {f : Addr} {fd : FuncData} {ps : List Str} (F : Fun K x qual st f fd)
    (h : ∀ (kV doc pm : Value) (an : Option Addr) (cdv ct : Value) (us : List Value), us.length = ps.length → bindArgs (PySem.W.fnOf x qual (defArgs st) (defBody st) (defScope st) .none kV doc pm an cdv ct) ⟨us, []⟩ = pure (ps.zip us)) : Binds K fd ps [] := by
  obtain ⟨oc, od, kV, doc, pm, an, cdv, ct, osl, rfl, lk, hcd⟩ := F.ex
  exact .all (h kV doc pm an cdv ct)
theorem fun_mk {x qual : Str} {st : Stmt} {f : Addr} {oc : Value} {od an : Option Addr} {osl : Array (Option Value)} {kV doc pm cdv ct : Value} (l : K.lookup f = some ⟨oc, od, .func (PySem.W.fnOf x qual (defArgs st) (defBody st) (defScope st) .none kV doc pm an cdv ct), osl⟩)
    (c : PySem.W.codeIn K cdv qual = true) (k : PySem.W.keepIn K (.ref f) = true) : Fun K x qual st f (PySem.W.fnOf x qual (defArgs st) (defBody st) (defScope st) .none kV doc pm an cdv ct) := ⟨⟨oc, od, kV, doc, pm, an, cdv, ct, osl, rfl, l, c⟩, k⟩
end
section
variable {X : Cx}
end
def Same (H H' : Hp) : Prop := ∀ b o, H b = some o → H' b = some o
theorem Same.refl (H : Hp) : Same H H := fun _ _ h => h
theorem Same.trans {H H1 H2 : Hp} (a : Same H H1) (b : Same H1 H2) : Same H H2 := fun c o h => b c o (a c o h)
theorem Same.seq {K : PySem.W.Frag} {H H' : Hp} {a : Addr} {xs : List V} (e : Same H H') (h : SqL K H a xs) : SqL K H' a xs := by
  rcases h with (h | ⟨o, h⟩) | h
  · exact .inl (.inl (e _ _ h))
  · exact .inl (.inr ⟨o, e _ _ h⟩)
  · exact .inr h
end L2
section
set_option Elab.async false
set_option linter.all false
set_option maxRecDepth 100000
namespace L2
open PySem PySem.Spec PyProof.Rows
section
variable {κ : Type} [DecidableEq κ]
def valV (kvs : List (κ × V)) (k : κ) : Option V := (kvs.find? fun kv => decide (kv.1 = k)).map (·.2)
def putK (kvs : List (κ × V)) (k : κ) (v : V) : List (κ × V) :=
  if (kvs.any fun kv => decide (kv.1 = k)) = true then kvs.map (fun kv => if kv.1 = k then (kv.1, v) else kv) else kvs ++ [(k, v)]
def dropK (kvs : List (κ × V)) (k : κ) : List (κ × V) := kvs.filter fun kv => decide (kv.1 ≠ k)
theorem valV_pos {p : κ × V} {r : List (κ × V)} {k : κ} (e : p.1 = k) : valV (p :: r) k = some p.2 := by simp [valV, List.find?_cons, e]
theorem valV_neg {p : κ × V} {r : List (κ × V)} {k : κ} (e : ¬ p.1 = k) : valV (p :: r) k = valV r k := by simp [valV, List.find?_cons, e]
theorem valV_any (k : κ) : ∀ kvs : List (κ × V), (kvs.any fun kv => decide (kv.1 = k)) = (valV kvs k).isSome
  | [] => rfl
  | p :: r => by
    rw [List.any_cons]
    by_cases e : p.1 = k
    · simp only [valV_pos e, decide_eq_true e, Bool.true_or, Option.isSome_some]
    · rw [valV_neg e, decide_eq_false e, Bool.false_or]; exact valV_any k r
theorem length_putK (kvs : List (κ × V)) (k : κ) (v : V) : (putK kvs k v).length ≤ kvs.length + 1 := by
  unfold putK
  split
  · rw [List.length_map]; omega
  · rw [List.length_append, List.length_cons, List.length_nil]; omega
theorem putK_new {kvs : List (κ × V)} {k : κ} (v : V) (h : valV kvs k = none) : putK kvs k v = kvs ++ [(k, v)] := by
  unfold putK
  rw [valV_any, h]
  exact if_neg (by decide)
theorem RelO.isSome_eq {o : Option V} {u : Option Value} (r : RelO o u) : o.isSome = u.isSome := by
  cases o with
  | none => cases u with
    | none => rfl
    | some _ => exact (show False from r).elim
  | some _ => cases u with
    | none => exact (show False from r).elim
    | some _ => rfl
theorem KV.val {kvs : List (κ × V)} {vs : List (κ × Value)} (r : KV kvs vs) (k : κ) : RelO (valV kvs k) (valueAt vs k) := by
  unfold KV at r
  induction r with
  | nil => exact True.intro
  | @cons p q ps qs h t ih =>
    obtain ⟨h1, h2⟩ := h
    by_cases e : p.1 = k
    · have e' : q.1 = k := h1.symm.trans e
      have b : valueAt (q :: qs) k = some q.2 := by simp [valueAt, List.find?_cons, e']
      rw [valV_pos e, b]; exact h2
    · have e' : ¬ q.1 = k := fun z => e (h1.trans z)
      have b : valueAt (q :: qs) k = valueAt qs k := by simp [valueAt, List.find?_cons, e']
      rw [valV_neg e, b]; exact ih
theorem KV.any {kvs : List (κ × V)} {vs : List (κ × Value)} (r : KV kvs vs) (k : κ) : (kvs.any fun kv => decide (kv.1 = k)) = vs.any fun kv => decide (kv.1 = k) := by
  unfold KV at r
  induction r with
  | nil => rfl
  | cons h t ih => rw [List.any_cons, List.any_cons, ih, h.1]
theorem KV.repl {kvs : List (κ × V)} {vs : List (κ × Value)} (r : KV kvs vs) (k : κ) {y : V} {u : Value} (ry : RelV y u) :
    KV (kvs.map fun kv => if kv.1 = k then (kv.1, y) else kv) (vs.map fun kv => if kv.1 = k then (kv.1, u) else kv) := by
  unfold KV at r ⊢
  induction r with
  | nil => exact .nil
  | @cons p q ps qs h t ih =>
    rw [List.map_cons, List.map_cons]
    refine .cons ?_ ih
    obtain ⟨h1, h2⟩ := h
    by_cases e : p.1 = k
    · rw [if_pos e, if_pos (h1.symm.trans e)]; exact ⟨h1, ry⟩
    · rw [if_neg e, if_neg (fun z => e (h1.trans z))]; exact ⟨h1, h2⟩
theorem KV.put {kvs : List (κ × V)} {vs : List (κ × Value)} (r : KV kvs vs) (k : κ) {y : V} {u : Value} (ry : RelV y u) : KV (putK kvs k y) (stored vs k u) := by
  unfold putK stored
  rw [r.any k]
  by_cases e : (vs.any fun kv => decide (kv.1 = k)) = true
  · rw [if_pos e, if_pos e]; exact r.repl k ry
  · rw [if_neg e, if_neg e]; exact Paired.snoc r ⟨rfl, ry⟩
theorem KV.drop {kvs : List (κ × V)} {vs : List (κ × Value)} (r : KV kvs vs) (k : κ) : KV (dropK kvs k) (without vs k) := by
  unfold KV at r ⊢
  unfold dropK without
  induction r with
  | nil => exact .nil
  | @cons p q ps qs h t ih =>
    obtain ⟨h1, h2⟩ := h
    rw [List.filter_cons, List.filter_cons]
    by_cases e : p.1 = k
    · have a : ¬ decide (p.1 ≠ k) = true := by simp [e]
      have b : ¬ decide (q.1 ≠ k) = true := by simp [h1.symm.trans e]
      rw [if_neg a, if_neg b]; exact ih
    · have e' : ¬ q.1 = k := fun z => e (h1.trans z)
      have a : decide (p.1 ≠ k) = true := by simp [e]
      have b : decide (q.1 ≠ k) = true := by simp [e']
      rw [if_pos a, if_pos b]; exact .cons ⟨h1, h2⟩ ih
theorem KV.keys {kvs : List (κ × V)} {vs : List (κ × Value)} (r : KV kvs vs) : kvs.map (·.1) = vs.map (·.1) := by
  unfold KV at r
  induction r with
  | nil => rfl
  | cons h t ih => rw [List.map_cons, List.map_cons, ih, h.1]
theorem KV.length {kvs : List (κ × V)} {vs : List (κ × Value)} (r : KV kvs vs) : kvs.length = vs.length := Paired.length r
theorem dropK_le (kvs : List (κ × V)) (k : κ) : (dropK kvs k).length ≤ kvs.length := List.length_filter_le _ _
end
theorem kV_is {P : Program} {w : World} {k : Key} {u : Value} (r : RelV (kV k) u) : (mixKind P w).is k u = true := by
  cases k with
  | inl i => obtain ⟨t, e⟩ := (show ∃ t, u = Value.int i t from r); subst e; exact mixKind_int P w i t
  | inr x => obtain ⟨t, e⟩ := (show ∃ t, u = Value.str x t from r); subst e; exact mixKind_str P w x t
theorem items_are {P : Program} {w : World} : ∀ {ks : List Key} {us : List Value}, Vals (ks.map kV) us → ItemsAre (mixKind P w) ks us
  | [], _, r => by rw [List.map_nil] at r; cases r; exact .nil
  | k :: ks, _, r => by
    rw [List.map_cons] at r
    cases r with
    | cons h t => exact .cons (kV_is h) (items_are t)
abbrev KT (H : Hp) : List (List Key × V) → List (List Key × Addr × Value) → Prop := Paired fun p q => p.1 = q.1 ∧ H q.2.1 = some (.tup (p.1.map kV)) ∧ RelV p.2 q.2.2
theorem KT.val {H : Hp} {kvs : List (List Key × V)} {xs : List (List Key × Addr × Value)} (r : KT H kvs xs) (k : List Key) : RelO (valV kvs k) ((atKey xs k).map (·.2)) := by
  induction r with
  | nil => exact True.intro
  | @cons p q ps qs h t ih =>
    obtain ⟨h1, _, h2⟩ := h
    by_cases e : p.1 = k
    · have e' : q.1 = k := h1.symm.trans e
      have b : atKey (q :: qs) k = some q.2 := by simp [atKey, List.find?_cons, e']
      rw [valV_pos e, b]; exact h2
    · have e' : ¬ q.1 = k := fun z => e (h1.trans z)
      have b : atKey (q :: qs) k = atKey qs k := by simp [atKey, List.find?_cons, e']
      rw [valV_neg e, b]; exact ih
theorem KT.repl {H : Hp} {kvs : List (List Key × V)} {xs : List (List Key × Addr × Value)} (r : KT H kvs xs) (k : List Key) {y : V} {u : Value} (ry : RelV y u) :
    KT H (kvs.map fun kv => if kv.1 = k then (kv.1, y) else kv) (xs.map (putAt k u)) := by
  induction r with
  | nil => exact .nil
  | @cons p q ps qs h t ih =>
    rw [List.map_cons, List.map_cons]
    refine .cons ?_ ih
    obtain ⟨h1, h2, h3⟩ := h
    unfold putAt
    by_cases e : p.1 = k
    · rw [if_pos e, if_pos (h1.symm.trans e)]; exact ⟨h1, h2, ry⟩
    · rw [if_neg e, if_neg (fun z => e (h1.trans z))]; exact ⟨h1, h2, h3⟩
theorem KT.put {H : Hp} {kvs : List (List Key × V)} {xs : List (List Key × Addr × Value)} (r : KT H kvs xs) (k : List Key) {b : Addr} {y : V} {u : Value} (hb : H b = some (.tup (k.map kV))) (ry : RelV y u) :
    KT H (putK kvs k y) (storedH xs k b u) := by
  have e : (kvs.any fun kv => decide (kv.1 = k)) = (atKey xs k).isSome := by
    rw [valV_any, (r.val k).isSome_eq, Option.isSome_map]
  unfold putK storedH
  rw [e]
  by_cases q : (atKey xs k).isSome = true
  · rw [if_pos q, if_pos q]; exact r.repl k ry
  · rw [if_neg q, if_neg q]; exact Paired.snoc r ⟨rfl, hb, ry⟩
theorem KT.keeps {H H' : Hp} {kvs : List (List Key × V)} {xs : List (List Key × Addr × Value)} (r : KT H kvs xs) (ht : ∀ b ys, H b = some (.tup ys) → H' b = some (.tup ys)) : KT H' kvs xs :=
  Paired.mapP r fun _ _ z => ⟨z.1, ht _ _ z.2.1, z.2.2⟩
section
variable {P : Program} {w : World} {H : Hp} {h : Heap} {a : Addr}
theorem rd_of {u : HO} (ok : HOk P w H h) (e : Rd H a u) : ObjOk P w H h a u := e.ok ok
theorem dk_rd {kvs : List (Key × V)} (ok : HOk P w H h) (e : Rd H a (.dK kvs)) : kvs.length ≤ sizeLine ∧ (a == sysModules) = false ∧ ∃ vs, KV kvs vs ∧ h.DictOf (mixKind P w) a vs :=
  show ObjOk P w H h a (.dK kvs) from rd_of ok e
theorem dk_of {kvs : List (Key × V)} (ok : HOk P w H h) (e : H a = some (.dK kvs)) : kvs.length ≤ sizeLine ∧ (a == sysModules) = false ∧ ∃ vs, KV kvs vs ∧ h.DictOf (mixKind P w) a vs := dk_rd ok (.inl e)
theorem key_of {ks : List Key} (ok : HOk P w H h) (e : H a = some (.tup (ks.map kV))) : (tupleKind (mixKind P w)).is h ks a := by
  obtain ⟨_, its, r, o, h1, h2, n, h3⟩ := (show ObjOk P w H h a (.tup (ks.map kV)) from ok a _ e)
  exact ⟨o, its.toArray, n, h1, h2, h3, by simpa using items_are r⟩
theorem dt_rd {kvs : List (List Key × V)} (ok : HOk P w H h) (e : Rd H a (.dT kvs)) : kvs.length ≤ sizeLine ∧ (a == sysModules) = false ∧
    ∃ xs, KT H kvs xs ∧ h.DictOfH (tupleKind (mixKind P w)) a xs := by
  obtain ⟨z, y, xs, r, o, es, ep, h1, h2, h3, h4, h5⟩ := (show ObjOk P w H h a (.dT kvs) from rd_of ok e)
  refine ⟨z, y, xs, r, o, es, ep, h1, h2, h3, h4, fun x hx => ?_, h5⟩
  have all : ∀ {l : List (List Key × V)} {m : List (List Key × Addr × Value)}, KT H l m → ∀ x ∈ m, (tupleKind (mixKind P w)).is h x.1 x.2.1 := by
    intro l m q
    induction q with
    | nil => intro x hx; exact nomatch hx
    | @cons p q ps qs hq t ih =>
      intro x hx
      rcases List.mem_cons.mp hx with e | hx
      · subst e
        exact key_of ok (by rw [← hq.1]; exact hq.2.1)
      · exact ih x hx
  exact all r x hx
theorem dt_of {kvs : List (List Key × V)} (ok : HOk P w H h) (e : H a = some (.dT kvs)) : kvs.length ≤ sizeLine ∧ (a == sysModules) = false ∧
    ∃ xs, KT H kvs xs ∧ h.DictOfH (tupleKind (mixKind P w)) a xs := dt_rd ok (.inl e)
end
def DGet (H : Hp) (a : Addr) (y : V) (r : Option V) : Prop :=
  (∃ kvs k, Rd H a (.dK kvs) ∧ y = kV k ∧ r = valV kvs k) ∨ ∃ kvs k b, Rd H a (.dT kvs) ∧ y = .ref b ∧ H b = some (.tup (k.map kV)) ∧ r = valV kvs k
def DPut (H : Hp) (a : Addr) (y v : V) (H' : Hp) : Prop :=
  (∃ kvs k, H a = some (.dK kvs) ∧ y = kV k ∧ kvs.length < sizeLine ∧ H' = upd H a (.dK (putK kvs k v))) ∨
  ∃ kvs k b, H a = some (.dT kvs) ∧ y = .ref b ∧ H b = some (.tup (k.map kV)) ∧ kvs.length < sizeLine ∧ H' = upd H a (.dT (putK kvs k v))
theorem DPut.k {H : Hp} {a : Addr} {kvs : List (Key × V)} {k : Key} {v : V} (e : H a = some (.dK kvs)) (hl : kvs.length < sizeLine) : DPut H a (kV k) v (upd H a (.dK (putK kvs k v))) := .inl ⟨kvs, k, e, rfl, hl, rfl⟩
section
variable {X : Cx} {pins : List (Addr × Obj)} {σ : St} {H : Hp} {s : Shared} {a : Addr} {y v : V} {u r : Value} {o : Option V} {A : Around} {E : Value → Shared → Prop}
theorem Inv.big (I : Inv X pins σ H s) : sysModules < s.heap.objs.size := by
  have h : mainGlobals < s.heap.objs.size := (I.mod.glob.keeps I.bk).lt
  exact Nat.lt_trans (by decide) h
theorem d_getItem {Q : Value → Shared → Prop} (hu : A.units + 1 < cLine) (I : Inv X pins σ H s) (g : DGet H a y (some v)) (ry : RelV y u) (h : ∀ w' s', Inv X pins σ H s' → RelV v w' → Q w' s') :
    wpAny (model X.prog X.w) A (getItem (.ref a) u) Q E s := by
  rcases g with ⟨kvs, k, e, ey, l⟩ | ⟨kvs, k, b, e, ey, eb, l⟩
  · subst ey
    obtain ⟨z, hd, vs, rel, dd⟩ := dk_rd I.hok e
    obtain ⟨w', hw, rw'⟩ := RelO.some_of (v := v) (o := valueAt vs k) (by rw [l]; exact rel.val k)
    exact wpAny_getItem_of (kV_is ry) dd.mapOf hw (h w' _ (I.tok _) rw')
  · subst ey
    cases (show u = Value.ref b from ry)
    obtain ⟨z, hd, xs, rel, dd⟩ := dt_rd I.hok e
    obtain ⟨w', hw, rw'⟩ := RelO.some_of (v := v) (o := (atKey xs k).map (·.2)) (by rw [l]; exact rel.val k)
    obtain ⟨p, hp, hp2⟩ := Option.map_eq_some_iff.mp hw
    refine wpAny_getItem_heap (tupleKind_room_in1 hu) (key_of I.hok eb) dd hp ?_
    rw [hp2]
    exact h w' _ (I.tok _) rw'
theorem d_notIn {Q : Value → Shared → Prop} (hu : A.units + 1 < cLine) (I : Inv X pins σ H s) (g : DGet H a y o) (ry : RelV y u) (h : ∀ s', Inv X pins σ H s' → Q (.bool (!o.isSome)) s') :
    wpAny (model X.prog X.w) A (compareOp .NotIn u (.ref a)) Q E s := by
  rcases g with ⟨kvs, k, e, ey, l⟩ | ⟨kvs, k, b, e, ey, eb, l⟩
  · subst ey
    obtain ⟨z, hd, vs, rel, dd⟩ := dk_rd I.hok e
    refine wpAny_notIn_of (kV_is ry) hd dd.mapOf ?_
    rw [← (rel.val k).isSome_eq, ← l]
    exact h _ (I.tok _)
  · subst ey
    cases (show u = Value.ref b from ry)
    obtain ⟨z, hd, xs, rel, dd⟩ := dt_rd I.hok e
    refine wpAny_notIn_heap (tupleKind_room_in1 hu) (key_of I.hok eb) hd dd ?_
    have q := (rel.val k).isSome_eq
    rw [Option.isSome_map] at q
    rw [← q, ← l]
    exact h _ (I.tok _)
theorem d_write {h' : Heap} {t' : Nat} {ob : HO} (I : Inv X pins σ H s) (mu : Mut (H a)) (hs : Heap.SameBut a s.heap h') (he : ∃ q, h'.get? a = some q) (new : ObjOk X.prog X.w (upd H a ob) h' a ob) :
    Inv X pins σ (upd H a ob) { s with heap := h', toks := t' } :=
  I.write (x := a) (e := a) mu (.inl rfl) (fun b q hb z => (hs.2 b hb).trans z) he new
theorem dk_new {P : Program} {w : World} {H' : Hp} {h' : Heap} {kvs : List (Key × V)} {vs : List (Key × Value)} (z : kvs.length ≤ sizeLine) (hd : (a == sysModules) = false) (rel : KV kvs vs) (dd : h'.DictOf (mixKind P w) a vs) :
    ObjOk P w H' h' a (.dK kvs) := ⟨z, hd, vs, rel, dd⟩
theorem d_setItem {H' : Hp} {Q : Unit → Shared → Prop} (hu : A.units + 1 < cLine) (I : Inv X pins σ H s) (g : DPut H a y v H') (ry : RelV y u) (rv : RelV v r) (h : ∀ s', Inv X pins σ H' s' → Q () s') :
    wpAny (model X.prog X.w) A (setItem (.ref a) u r) Q E s := by
  rcases g with ⟨kvs, k, e, ey, l, eH⟩ | ⟨kvs, k, b, e, ey, eb, l, eH⟩
  · subst ey eH
    obtain ⟨z, hd, vs, rel, dd⟩ := dk_of I.hok e
    have hz : vs.length ≤ sizeLine := by rw [← rel.length]; exact z
    have hl : (putK kvs k v).length ≤ sizeLine := by have := length_putK kvs k v; omega
    refine wpAny_setItem_pairs (hsz := hz) (kV_is ry) dd fun h' dd' hs => h _ ?_
    have he : ∃ q, h'.get? a = some q := let ⟨q, _, _, hq, _⟩ := dd'; ⟨q, hq⟩
    exact d_write I (by rw [e]; exact True.intro) hs he (dk_new hl hd (rel.put k rv) dd')
  · subst ey eH
    cases (show u = Value.ref b from ry)
    obtain ⟨z, hd, xs, rel, dd⟩ := dt_of I.hok e
    have hz : xs.length ≤ sizeLine := by rw [← Paired.length rel]; exact z
    have hl : (putK kvs k v).length ≤ sizeLine := by have := length_putK kvs k v; omega
    refine wpAny_setItem_heap (hsz := hz) (tupleKind_room_in1 hu) (key_of I.hok eb) dd fun h' dd' hs => h _ ?_
    obtain ⟨q, es, ep, hq, h2, h3, h4, _, h5⟩ := dd'
    refine d_write I (by rw [e]; exact True.intro) hs ⟨q, hq⟩ ⟨hl, hd, _, (rel.put k eb rv).keeps fun c ys ec => ?_, q, es, ep, hq, h2, h3, h4, h5⟩
    rw [upd_ne (ne_of ec e (fun z => nomatch z))]
    exact ec
end
section
variable {X : Cx} {pins : List (Addr × Obj)} {σ : St} {H : Hp} {s : Shared} {a : Addr} {kvs : List (Key × V)} {k : Key} {u : Value} {A : Around} {E : Value → Shared → Prop}
theorem d_pop {v : V} {more : List Value} {Q : Value → Shared → Prop} (I : Inv X pins σ H s) (e : H a = some (.dK kvs)) (ry : RelV (kV k) u) (l : valV kvs k = some v) (hm : more = [] ∨ ∃ x, more = [x])
    (h : ∀ w' s', Inv X pins σ (upd H a (.dK (dropK kvs k))) s' → RelV v w' → Q w' s') : wpAny (model X.prog X.w) A (call (.builtin "dict.pop") (.ref a :: u :: more)) Q E s := by
  obtain ⟨z, hd, vs, rel, dd⟩ := dk_of I.hok e
  obtain ⟨w', hw, rw'⟩ := RelO.some_of (v := v) (o := valueAt vs k) (by rw [← l]; exact rel.val k)
  have hp : (keyPart u).isSome = true := by
    cases k with
    | inl i => obtain ⟨t, q⟩ := (show ∃ t, u = Value.int i t from ry); subst q; rfl
    | inr x => obtain ⟨t, q⟩ := (show ∃ t, u = Value.str x t from ry); subst q; rfl
  have ha : argsOk "dict.pop" ⟨.ref a :: u :: more, []⟩ := by
    rcases hm with q | ⟨x, q⟩
    · subst q; exact PySem.F.args_dict_pop_2 _ _
    · subst q; exact PySem.F.args_dict_pop_3 _ _ _
  refine call_meetsIn PySem.F.slot_dict_pop dd.typeIs PySem.F.entry_dict_pop ha (meets_dict_pop_there (mixKind X.prog X.w) a (kV_is ry) more hm hp)
    ⟨vs, w', dd, by rw [← rel.length]; exact z, hw, fun h' dd' hs => h w' _ ?_ rw'⟩
  have he : ∃ q, h'.get? a = some q := let ⟨q, _, _, hq, _⟩ := dd'; ⟨q, hq⟩
  exact d_write I (by rw [e]; exact True.intro) hs he (dk_new (Nat.le_trans (dropK_le kvs k) z) hd (rel.drop k) dd')
end
def NoSl (i : Expr) : Prop := ∀ ov iv, subscripted i false ov iv = operate [ov, iv] (getItem ov iv)
theorem subD_of {prog : Program} {w : World} {A : Around} {E : Value → Shared → Prop} {s : Shared} {env : Env} {value slice : Expr} {pos : Pos} {T id : String} {Q : Value → Shared → Prop}
    (hl : typeLookup (.type T) "__getitem__" = pure (some (.builtin id))) (hs : NoSl slice)
    (h : wpAny (model prog w) A (eval value env) (fun o s₁ => wpAny (model prog w) A (eval slice env) (fun i s₂ => s₂.TypeIs o T ∧ wpAny (model prog w) A (getItem o i) Q E s₂) E s₁) E s) :
    wpAny (model prog w) A (eval (.Subscript value slice pos) env) Q E s := by
  refine Subscript_ (wpAny_mono h (fun o s₁ h₁ => wpAny_mono h₁ (fun i s₂ h₂ => ?_) fun _ _ x => x) fun _ _ x => x)
  obtain ⟨hT, h₂⟩ := h₂
  unfold subscriptTail
  refine wpAny_bind ?_
  rw [getitemInPython_of_ne hT.not_modules]
  refine wpAny_bind (wpAny_specialOf hT hl ?_)
  have fin : wpAny (model prog w) A (subscripted slice false o i) (fun r s₃ => wpAny (model prog w) A (letTemporaryGo value o r >>= fun _ => pure r) Q E s₃) E s₂ := by
    rw [hs o i]
    exact wpAny_operating (wpAny_mono h₂ (fun r s₃ h₃ => wpAny_bind (wpAny_letTemporaryGo (wpAny_pure h₃))) fun _ _ x => x)
  first
    | exact wpAny_pure (wpAny_bind fin)
    | exact wpAny_bind (wpAny_pure (wpAny_bind fin))
    | exact wpAny_bind fin
theorem dict_typeIs {X : Cx} {pins : List (Addr × Obj)} {σ : St} {H : Hp} {s : Shared} {a : Addr} {y : V} {o : Option V} (I : Inv X pins σ H s) (g : DGet H a y o) : s.TypeIs (.ref a) "dict" := by
  rcases g with ⟨kvs, k, e, _, _⟩ | ⟨kvs, k, b, e, _, _, _⟩
  · obtain ⟨_, _, vs, _, dd⟩ := dk_rd I.hok e
    exact dd.typeIs
  · obtain ⟨_, _, xs, _, dd⟩ := dt_rd I.hok e
    exact dd.typeIs
def tDGet (td ty : TE) : TE := fun σ H Q => td σ H fun x H1 => ty σ H1 fun y H2 => ∃ a v, x = .ref a ∧ DGet H2 a y (some v) ∧ Q v H2
def tDNotIn (ty td : TE) : TE := fun σ H Q => ty σ H fun y H1 => td σ H1 fun x H2 => ∃ a o, x = .ref a ∧ DGet H2 a y o ∧ Q (.bl (!o.isSome)) H2
def sDPut (td ty tv : TE) : TS := fun D σ H => tv σ H fun v H1 => td σ H1 fun x H2 => ty σ H2 fun y H3 => ∃ a H4, x = .ref a ∧ DPut H3 a y v H4 ∧ D.nx σ H4
section
variable {X : Cx} {o i e value : Expr} {pos pos' tpos : Pos} {td ty tv : TE}
theorem pe_dget (hu : X.A.units + 1 < cLine) (ho : PE X o td) (hi : PE X i ty) (hs : NoSl i) : PE X (.Subscript o i pos) (tDGet td ty) := by
  intro pins s σ H Q I h
  refine subD_of PySem.F.slot_dict_getitem.lookup hs (thn (ho pins s σ H _ I h) fun u s1 ⟨x, H1, I1, rx, q1⟩ => thn (hi pins s1 σ H1 _ I1 q1) fun iv s2 ⟨y, H2, I2, ry, a, v, ex, g, q2⟩ => ?_)
  subst ex
  obtain rfl : u = Value.ref a := rx
  exact ⟨dict_typeIs I2 g, d_getItem hu I2 g ry fun w' s3 I3 rw' => ⟨v, H2, I3, rw', q2⟩⟩
theorem pc_dnotin (hu : X.A.units + 1 < cLine) (hi : PE X i ty) (ho : PE X o td) : PC X .NotIn i o (tDNotIn ty td) := by
  intro pins s σ H Q I h
  refine thn (hi pins s σ H _ I h) fun iv s1 ⟨y, H1, I1, ry, q1⟩ => thn (ho pins s1 σ H1 _ I1 q1) fun u s2 ⟨x, H2, I2, rx, a, ov, ex, g, q2⟩ => ?_
  subst ex
  obtain rfl : u = Value.ref a := rx
  exact d_notIn hu I2 g ry fun s3 I3 => ⟨.bl (!ov.isSome), H2, I3, rfl, q2⟩
theorem ps_dput (hu : X.A.units + 1 < cLine) (ho : PE X o td) (hi : PE X i ty) (hv : PE X value tv) (hs : swapsWith value (some (.Subscript o i pos')) pos.line X.env = pure false) :
    PS X (.Assign [.Subscript o i pos'] value pos) (sDPut td ty tv) := by
  intro pins s σ H D I h
  refine wpAny_Assign_Subscript (thn (hv pins s σ H _ I h) fun r s1 ⟨v, H1, I1, rv, q1⟩ => thn (ho pins s1 σ H1 _ I1 q1) fun u s2 ⟨x, H2, I2, rx, q2⟩ => thn (hi pins s2 σ H2 _ I2 q2) fun iv s3 ⟨y, H3, I3, ry, a, H4, ex, g, q3⟩ => ?_) hs
  subst ex
  obtain rfl : u = Value.ref a := rx
  exact d_setItem hu I3 g ry rv fun s4 I4 => ⟨σ, H4, I4, q3⟩
end
theorem dk_empty {P : Program} {w : World} {H : Hp} (h : Heap) (hb : sysModules < h.objs.size) : ObjOk P w H (h.push { cls := .type "dict", data := .dict #[] }) h.objs.size (.dK []) :=
  ⟨Nat.zero_le _, beq_eq_false_iff_ne.mpr (Ne.symm (Nat.ne_of_lt hb)), [], .nil, Heap.DictOf.new h⟩
def tDNewK : TE := fun _ H Q => ∀ p, H p = none → Q (.ref p) (upd H p (.dK []))
section
variable {X : Cx} {pos : Pos}
theorem pe_dnewK : PE X (.Dict [] [] pos) tDNewK := fun pins s σ H Q I h =>
  wpAny_Dict_empty ⟨.ref s.heap.objs.size, _, I.laid (a := s.heap.objs.size) (o := .dK []) (t' := s.toks) (fun _ _ q => Heap.get?_push_of_some _ q) (Nat.le_refl _) (dk_empty s.heap I.big), rfl, h _ (I.hok.fresh (Nat.le_refl _))⟩
end
structure M1 (X : Cx) (o : Expr) (m : Str) (apos : Pos) (e : Expr) (cpos : Pos) : Prop where
  base : attributeBase o m X.env (eval o X.env) = eval o X.env
  few : ((backTo cpos (starEach [e] X.env)).all (fun x => !x.1) && (backToKw cpos (keywordEach [] X.env)).all (fun x => x.1.isSome)
    && decide (([e] : List Expr).length + ([] : List Keyword).length + (if ([] : List Keyword).isEmpty then 0 else 1) < 30)) = true
  line : (apos.endLine == cpos.line) = true
  trees : backTo cpos (starEach [e] X.env) = [(false, eval e X.env)]
structure M2 (X : Cx) (o : Expr) (m : Str) (apos : Pos) (e f : Expr) (cpos : Pos) : Prop where
  base : attributeBase o m X.env (eval o X.env) = eval o X.env
  few : ((backTo cpos (starEach [e, f] X.env)).all (fun x => !x.1) && (backToKw cpos (keywordEach [] X.env)).all (fun x => x.1.isSome)
    && decide (([e, f] : List Expr).length + ([] : List Keyword).length + (if ([] : List Keyword).isEmpty then 0 else 1) < 30)) = true
  line : (apos.endLine == cpos.line) = true
  trees : backTo cpos (starEach [e, f] X.env) = [(false, eval e X.env), (false, eval f X.env)]
def IsD (H : Hp) (a : Addr) : Prop := (∃ kvs, Rd H a (.dK kvs)) ∨ ∃ kvs, Rd H a (.dT kvs)
theorem isD_at {X : Cx} {pins : List (Addr × Obj)} {σ : St} {H : Hp} {s : Shared} {a : Addr} (I : Inv X pins σ H s) (d : IsD H a) :
    s.TypeIs (.ref a) "dict" ∧ (∀ b, Value.ref a = .ref b → ∃ ob, s.heap.get? b = some ob ∧ ob.dict = none) ∧ (a == sysModules) = false := by
  rcases d with ⟨kvs, e⟩ | ⟨kvs, e⟩
  · obtain ⟨_, hd, vs, _, dd⟩ := dk_rd I.hok e
    refine ⟨dd.typeIs, fun b q => ?_, hd⟩
    cases q
    obtain ⟨ob, _, _, h1, h2, _⟩ := dd
    exact ⟨ob, h1, h2.2.1⟩
  · obtain ⟨_, hd, xs, _, dd⟩ := dt_rd I.hok e
    refine ⟨dd.typeIs, fun b q => ?_, hd⟩
    cases q
    obtain ⟨ob, _, _, h1, h2, _⟩ := dd
    exact ⟨ob, h1, h2.2.1⟩
section
variable {X : Cx} {pins : List (Addr × Obj)} {σ : St} {H : Hp} {s : Shared} {a : Addr} {y d : V} {u r : Value} {o : Option V} {A : Around} {E : Value → Shared → Prop}
end
def tDPop1 (td ty : TE) : TE := fun σ H Q => td σ H fun x H1 => ∃ a, x = .ref a ∧ IsD H1 a ∧ ty σ H1 fun y H2 => ∃ kvs k v, H2 a = some (.dK kvs) ∧ y = kV k ∧ valV kvs k = some v ∧ Q v (upd H2 a (.dK (dropK kvs k)))
section
variable {X : Cx} {o e f : Expr} {apos cpos : Pos} {td ty tx : TE}
theorem pe_dpop1 (ho : PE X o td) (he : PE X e ty) (m : M1 X o "pop" apos e cpos) : PE X (.Call (.Attribute o "pop" apos) [e] [] cpos) (tDPop1 td ty) := by
  intro pins s σ H Q I h
  refine wpAny_Call_method m.base m.few m.line PySem.F.plainAttrs_dict PySem.F.slot_dict_pop PySem.F.type_dict_pop (thn (ho pins s σ H _ I h) fun u s1 ⟨x, H1, I1, rx, a, ex, d, q1⟩ => ?_)
  subst ex
  obtain rfl : u = Value.ref a := rx
  obtain ⟨t1, t2, _⟩ := isD_at I1 d
  refine ⟨t1, t2, ?_⟩
  rw [m.trees]
  refine Calls.callWith_builtin rfl (Calls.evalArgs_plain (Calls.spliced_cons (thn (he pins s1 σ H1 _ I1 q1) fun iv s2 ⟨y, H2, I2, ry, kvs, k, v, ea, ey, l, q2⟩ => Calls.spliced_nil ?_)))
  subst ey
  exact d_pop I2 ea ry l (.inl rfl) fun w' s3 I3 rw' => ⟨v, _, I3, rw', q2⟩
end
section
variable {X : Cx} {pins : List (Addr × Obj)} {σ : St} {H : Hp} {s : Shared} {a : Addr} {kvs : List (Key × V)} {A : Around} {E : Value → Shared → Prop}
end
section
variable {X : Cx} {pins : List (Addr × Obj)} {σ : St} {H : Hp} {s : Shared} {a : Addr} {y : V} {u : Value} {A : Around} {E : Value → Shared → Prop}
end
end L2
namespace L2
open PySem PySem.Spec PyProof.Rows
section
variable {X : Cx}
end
section
variable {κ : Type} [DecidableEq κ]
end
end L2
end
section
set_option Elab.async false
set_option linter.all false
set_option maxRecDepth 100000
set_option maxHeartbeats 4000000
namespace Lw
open PySem PySem.Spec PyProof.Rows L2
theorem obj_some {P : Program} {w : World} {H : Hp} {h : Heap} {a : Addr} {o : HO} (x : ObjOk P w H h a o) : ∃ u, h.get? a = some u := by
  cases o with
  | lst xs => obtain ⟨_, _, _, _, e⟩ := x; exact ⟨_, e⟩
  | tup xs => obtain ⟨_, _, _, o, e, _⟩ := x; exact ⟨_, e⟩
  | dK kvs => obtain ⟨_, _, _, _, o, _, _, e, _⟩ := x; exact ⟨_, e⟩
  | dT kvs => obtain ⟨_, _, _, _, o, _, _, e, _⟩ := x; exact ⟨_, e⟩
  | set S n => obtain ⟨o, _, _, _, e, _⟩ := x; exact ⟨_, e⟩
  | ins C dx fs => obtain ⟨_, _, _, e, _⟩ := x; exact ⟨_, e⟩
  | own y => exact x
  | xd fs => obtain ⟨_, ⟨_, _, _, e, _⟩, _⟩ := x; exact ⟨_, e⟩
  | rng lo hi => obtain ⟨_, _, _, e⟩ := x; exact ⟨_, e⟩
  | frz ob u => exact ⟨_, x.1⟩
  | tbl ps => exact ⟨_, x⟩
  | met f y => exact ⟨_, x⟩
  | ext φ => exact x.2.1
structure Fly (P : Program) (w : World) (outer : List Env) (H : Hp) (s : Shared) (H' : Hp) (a : Addr) (cls : Value) (B : Heap) (a0 : Value) (s' : Shared) : Prop where
  os : s'.os = s.os
  bare : AllBare s'.gens
  un : Un (frs outer) [] H H' s.heap s'.heap
  hok : HOk P w H' s'.heap
  fresh : s.heap.get? a = none
  free : H' a = none
  fly : Heap.FlyingW B outer a cls a0 s'.heap
  trk : ∀ b o, H' b ≠ none → s'.heap.get? b = some o → B.get? b = some o
  old : ∀ b o, s.heap.get? b = some o → H b = none → b ∉ frs outer → B.get? b = some o
  any : ∀ b o, s.heap.get? b = some o → b ∉ frs outer → ∃ o', B.get? b = some o'
section
variable {P : Program} {w : World} {outer : List Env} {H H' : Hp} {s s' : Shared} {a : Addr} {cls a0 : Value} {B h5 : Heap}
end
structure DefCx (X : Cx) : Prop where
  stk : X.stack = X.env :: X.outer
  fr : X.env.frame = some X.env.locals
  ex : X.ex = []
section
variable {X : Cx} {pins : List (Addr × Obj)} {σ : L2.St} {H H' : Hp} {s s' : Shared} {M : Model} {E : Value → Shared → Prop} {Q : Unit → Shared → Prop}
theorem not_stk (I : Inv X pins σ H s) {b : Addr} {o : Obj} (e : X.s₀.heap.get? b = some o) (hb : b ∉ X.fs) : b ∉ frs X.stack := fun z => by
  rcases List.mem_cons.mp (I.stkSub b z) with q | q
  · subst q
    exact Nat.lt_irrefl _ (Nat.lt_of_lt_of_le (Heap.lt_size e) I.ok.above)
  · exact hb q
theorem fresh_of (D : DefCx X) (I : Inv X pins σ H s) {a : Addr} (n : s.heap.get? a = none) : X.s₀.heap.get? a = none := by
  cases q : X.s₀.heap.get? a with
  | none => rfl
  | some o =>
    obtain ⟨o', e⟩ := I.base.there a o q (by rw [D.ex]; simp)
    rw [n] at e
    cases e
theorem fly_made {h' : Heap} {e : Addr} {cls : Value} {vs : List Value} (D : DefCx X) (I : Inv X pins σ H s) (hx : Heap.MadeExcOf s.heap h' e cls vs)
    (k : ∀ s'' B a0, Fly X.prog X.w X.outer X.H₀ X.s₀ H e cls B a0 s'' → Q () s'') : wpAny M X.A (leaving X.env (.ref e)) Q E { s with heap := h' } := by
  have hfr : X.A.frames = some (X.env :: X.outer) := by rw [I.ok.frames, D.stk]
  have hex : ∀ b : Addr, b ∉ X.ex := fun b => by rw [D.ex]; simp
  have hB : ∀ b o, s.heap.get? b = some o → b ∉ frs X.stack → (PySem.W.hideAll s.heap (frs X.stack)).get? b = some o := fun b o q nm => PySem.W.hideAll_get _ q nm
  have hl : s.heap.FunFrames (PySem.W.hideAll s.heap (frs X.stack)) (X.env :: X.outer) := by
    have z := PySem.W.funFrames_hide (as := frs X.stack) I.stack fun env he b hb => List.mem_filterMap.mpr ⟨env, he, hb⟩
    rw [D.stk] at z ⊢
    exact z
  have tn : ∀ b, H b ≠ none → b ∉ frs X.stack := fun b n z => n (I.stkFree b z)
  refine wpAny_leaves_madeW (s := { s with heap := h' }) hfr D.fr (fun b o q => PySem.W.of_hideAll _ q) hl hx fun h5 t f5 _ _ u5 => k _ (PySem.W.hideAll s.heap (frs X.stack)) (.ref t) ?_
  have St := f5.1
  have un5 : Un (frs X.stack) [] H H s.heap h5 := by
    have sl : ∀ b o, s.heap.get? b = some o → b ∈ frs X.stack → ∃ sl, h5.get? b = some { o with slots := sl } := fun b o e hb => by
      obtain ⟨_, o', e', nf⟩ := I.stack.mem hb
      rw [e] at e'
      cases e'
      exact u5 b o (hx.keeps b o e) nf
    refine ⟨fun b o e n hb _ => St b o (hB b o e hb), fun b o e n hb _ => sl b o e hb, fun _ _ _ n _ => n, fun b o e _ => ?_, fun _ _ q => q, fun _ _ _ q => q, fun b ps q => ⟨#[], by rw [q]; simp⟩⟩
    by_cases hb : b ∈ frs X.stack
    · obtain ⟨z, e1⟩ := sl b o e hb
      exact ⟨_, e1⟩
    · exact ⟨o, St b o (hB b o e hb)⟩
  have hok5 : HOk X.prog X.w H h5 := fun b u e => by
    refine (I.hok b u e).stay (fun c v hc q => St c v (hB c v q (tn c ?_))) (fun _ q => q) fun _ _ q => q
    rcases hc with z | z
    · rw [z, e]; simp
    · rw [z]; simp
  have I5 : Inv X pins σ H { s with heap := h5 } := I.call' (s' := { s with heap := h5 }) (ch := []) rfl un5 hok5 I.bare fun b hb => absurd hb (by simp)
  refine ⟨I5.os, I5.bare, ?_, hok5, fresh_of D I hx.new, ?_, f5, fun b o n q => ?_, fun b o e n hb => ?_, fun b o e hb => ?_⟩
  · have u := I5.base
    rw [D.ex] at u
    exact u
  · cases q : H e with
    | none => rfl
    | some u =>
      obtain ⟨o, z⟩ := obj_some (I.hok e u q)
      rw [hx.new] at z
      cases z
  · cases z : H b with
    | none => exact absurd z n
    | some u =>
      obtain ⟨o1, e1⟩ := obj_some (I.hok b u z)
      have e2 := hB b o1 e1 (tn b n)
      have e3 := St b o1 e2
      have q' : h5.get? b = some o := q
      rw [q'] at e3
      cases e3
      exact e2
  · exact hB b o (I.base.keep b o e n hb (hex b)) (not_stk I e hb)
  · obtain ⟨o1, e1⟩ := I.base.there b o e (hex b)
    exact ⟨o1, hB b o1 e1 (not_stk I e hb)⟩
end
def CXE (P : Program) (w : World) : CXT := fun outer H s E e s' => ∃ a cls H' B a0, e = .ref a ∧ Fly P w outer H s H' a cls B a0 s' ∧ E cls none H'
theorem cxe0 {P : Program} {w : World} {outer : List Env} {H : Hp} {s s' : Shared} {e : Value} (h : CXE P w outer H s (fun _ _ _ => False) e s') : False := by
  obtain ⟨_, _, _, _, _, _, _, z⟩ := h
  exact z
theorem passX0 {X : Cx} : Passes (CXE X.prog X.w) X E0 := fun _ _ _ _ _ _ _ h => (cxe0 h).elim
section
variable {P : Program} {w : World} {K : PySem.W.Frag} {mg : Str → Option Value} {base : Heap} {N : List Str} {qual : Str} {scope : Scope} {f : Addr} {cd : Value} {A : Around} {outer : List Env} {s₀ : Shared} {H₀ : Hp} {E : XK}
theorem raiseX {pins : List (Addr × Obj)} {σ : L2.St} {H : Hp} {s : Shared} {h' : Heap} {e : Addr} {cls : Value} {vs : List Value} (I : Inv (cxOf (CXE P w) P w K mg base N qual scope f cd A outer s₀ H₀ E) pins σ H s) (hx : Heap.MadeExcOf s.heap h' e cls vs) (q : E cls none H) :
    (cxOf (CXE P w) P w K mg base N qual scope f cd A outer s₀ H₀ E).xe (.ref e) { s with heap := h' } :=
  fly_made (X := cxOf (CXE P w) P w K mg base N qual scope f cd A outer s₀ H₀ E) ⟨rfl, rfl, rfl⟩ I hx fun s'' B a0 F' => ⟨e, cls, H, B, a0, rfl, F', q⟩
end
end Lw
end
section
set_option Elab.async false
set_option linter.all false
set_option maxRecDepth 100000
set_option maxHeartbeats 4000000
namespace Lw
open PySem PySem.Spec PyProof.Rows L2
def Br (b : Bool) (A B : Prop) : Prop := (b = true → A) ∧ (b = false → B)
theorem br_eq (b : Bool) (A B : Prop) : Br b A B = (if b = true then A else B) := by
  unfold Br
  cases b <;> simp
def dVar (i : Nat) : TE := fun σ H Q => match σ[i]? with
  | some (some v) => Q v H
  | _ => False
theorem dVar_eq (i : Nat) : dVar i = tVar i := by
  funext σ H Q
  apply propext
  unfold dVar tVar
  cases h : σ[i]? with
  | none => simp
  | some o => cases o <;> simp
def dI (C : Int → Int → Prop) (g : Int → Int → V) : R2 := fun x y H Q => match x, y with
  | .int i, .int j => C i j ∧ Q (g i j) H
  | _, _ => False
def dI0 (g : Int → Int → V) : R2 := fun x y H Q => match x, y with
  | .int i, .int j => Q (g i j) H
  | _, _ => False
def dU (g : Int → V) : V → Hp → VK → Prop := fun x H Q => match x with
  | .int i => Q (g i) H
  | _ => False
def dTest (t : TE) : TT := fun σ H Q => t σ H fun x H' => match x with
  | .bl k => Q k H'
  | _ => False
theorem dTest_eq (t : TE) : dTest t = tTest t := by
  funext σ H Q
  unfold dTest tTest
  congr 1
  funext x H'
  apply propext
  cases x <;> simp
theorem dTest_eqB (t : TE) : dTest t = tB t := dTest_eq t
def dAnd (t u : TT) : TT := fun σ H Q => t σ H fun c H1 => Br c (u σ H1 Q) (Q false H1)
def dOr (t u : TT) : TT := fun σ H Q => t σ H fun c H1 => Br c (Q true H1) (u σ H1 Q)
theorem dAnd_eq (t u : TT) : dAnd t u = tAnd t u := by
  funext σ H Q
  unfold dAnd tAnd
  simp only [br_eq]
theorem dOr_eq (t u : TT) : dOr t u = tOr t u := by
  funext σ H Q
  unfold dOr tOr
  simp only [br_eq]
def dAndV (ta tb : TE) : TE := fun σ H Q => ta σ H fun x H1 => match x with
  | .bl c => Br c (tb σ H1 Q) (Q (.bl false) H1)
  | _ => False
def dNotV (ta : TE) : TE := fun σ H Q => ta σ H fun x H1 => match x with
  | .bl c => Q (.bl (!c)) H1
  | _ => False
theorem dAndV_eq (t u : TE) : dAndV t u = tAndV t u := by
  funext σ H Q
  unfold dAndV tAndV
  congr 1
  funext x H'
  apply propext
  cases x <;> simp [br_eq]
theorem dNotV_eq (t : TE) : dNotV t = tNotV t := by
  funext σ H Q
  unfold dNotV tNotV
  congr 1
  funext x H'
  apply propext
  cases x <;> simp
def dIfS (c : TT) (t u : TS) : TS := fun D σ H => c σ H fun b H1 => Br b (t D σ H1) (u D σ H1)
theorem dIfS_eq (c : TT) (t u : TS) : dIfS c t u = tIfS c t u := by
  funext D σ H
  unfold dIfS tIfS
  simp only [br_eq]
section
variable {X : Cx} {a b c : Expr} {ta tb tc : TE} {pos : Pos} {tA tB' : TT} {rest : List Expr}
theorem dv (i : Nat) {x : Str} {pos : Pos} (hN : X.N[i]? = some x := by rfl) (hv : Vis X.env.scope x := by first | exact Or.inl rfl | exact Or.inr (Or.inl rfl) | exact Or.inr (Or.inr rfl)) (hd : (x == ("__debug__" : Str)) = false := by decide)
    (hcd : (x == ("__classdict__" : Str)) = false := by decide) : PE X (.Name x pos) (dVar i) := by
  rw [dVar_eq]
  exact pe_var hN hv hd hcd
theorem opD {f : Value → Value → Sem Value} {C : Int → Int → Prop} {g : Int → Int → V} (h : OpR X f (rI C g)) : OpR X f (dI C g) := by
  intro pins s σ H x y v u Q I rx ry q
  cases x <;> cases y <;> first
    | exact False.elim q
    | exact h _ _ _ _ _ _ _ _ _ I rx ry ⟨_, _, rfl, rfl, q.1, q.2⟩
theorem opD0 {f : Value → Value → Sem Value} {g : Int → Int → V} (h : OpR X f (rI0 g)) : OpR X f (dI0 g) := by
  intro pins s σ H x y v u Q I rx ry q
  cases x <;> cases y <;> first
    | exact False.elim q
    | exact h _ _ _ _ _ _ _ _ _ I rx ry ⟨_, _, rfl, rfl, q⟩
theorem unD {f : Value → Sem Value} {g : Int → V} (h : UnR X f (rU g)) : UnR X f (dU g) := by
  intro pins s σ H x v Q I rx q
  cases x <;> first
    | exact False.elim q
    | exact h _ _ _ _ _ _ _ I rx ⟨_, rfl, q⟩
def Bd (n : Nat) (x : Int) : Prop := x.natAbs < 2 ^ n
theorem Bd.bits {n : Nat} {x : Int} (h : Bd n x) : Builtin.Int.intBits x ≤ n := intBits_le_iff.mpr h
def COk (i j : Int) : Prop := (Bd 4000 i ∧ Bd 4000 j) ∨ CMul i j
theorem COk.ok {i j : Int} (h : COk i j) : IntMulOk i j := by
  rcases h with ⟨h1, h2⟩ | h
  · exact PySem.IntMulOk.of_bits (Nat.le_trans h1.bits (by decide)) (Nat.le_trans h2.bits (by decide))
  · exact h.ok
theorem pow_log {n : Nat} {x : Int} (h : Bd n x) (h0 : 0 < n) : x.natAbs.log2 < n := by
  by_cases z : x.natAbs = 0
  · rw [z]
    simpa using h0
  · exact (Nat.log2_lt z).mpr h
theorem o_add : OpR X (binaryOp .Add) (dI0 fun i j => .int (i + j)) := opD0 op_add
theorem o_sub : OpR X (binaryOp .Sub) (dI0 fun i j => .int (i - j)) := opD0 op_sub
theorem o_mul : OpR X (binaryOp .Mult) (dI COk fun i j => .int (i * j)) := opD (opI fun _ _ _ _ _ _ _ hc q => mul_int q hc.ok)
theorem o_div : OpR X (binaryOp .FloorDiv) (dI (fun _ j => 0 < j ∧ Bd 4000 j) fun i j => .int (i / j)) := opD (opI fun i j _ _ _ _ _ hc q => by
  have h1 : (0 : Int) < j := hc.1
  exact floordiv_int (by omega) (by rw [Int.fdiv_eq_ediv_of_nonneg i (by omega)]; exact q) (.inl (PyProof.noPylong_of_log2 (Nat.lt_trans (pow_log hc.2 (by decide)) (by decide)))))
theorem o_divN : OpR X (binaryOp .FloorDiv) (dI (fun _ j => j ≠ 0 ∧ Bd 4000 j) fun i j => .int (i.fdiv j)) := opD (opI fun i j _ _ _ _ _ hc q => by
  exact floordiv_int hc.1 q (.inl (PyProof.noPylong_of_log2 (Nat.lt_trans (pow_log hc.2 (by decide)) (by decide)))))
theorem o_mod : OpR X (binaryOp .Mod) (dI (fun _ j => 0 < j) fun i j => .int (i % j)) := opD op_mod
theorem o_modN : OpR X (binaryOp .Mod) (dI (fun _ j => j ≠ 0) fun i j => .int (i.fmod j)) := opD op_modN
theorem o_pow : OpR X (binaryOp .Pow) (dI CPow fun i j => .int (i ^ j.toNat)) := opD op_pow
theorem o_lt : OpR X (compareOp .Lt) (dI0 fun i j => .bl (decide (i < j))) := opD0 op_lt
theorem o_le : OpR X (compareOp .LtE) (dI0 fun i j => .bl (decide (i ≤ j))) := opD0 op_le
theorem o_gt : OpR X (compareOp .Gt) (dI0 fun i j => .bl (decide (j < i))) := opD0 op_gt
theorem u_neg : UnR X (unaryOp .USub) (dU fun i => .int (-i)) := unD un_neg
def dEq : R2 := fun x y H Q => match x, y with
  | .int i, .int j => Q (.bl (decide (i = j))) H
  | .bl i, .bl j => Q (.bl (i == j)) H
  | .str i, .str j => Q (.bl (decide (i = j))) H
  | _, _ => False
def dNe : R2 := fun x y H Q => match x, y with
  | .int i, .int j => Q (.bl (!decide (i = j))) H
  | .bl i, .bl j => Q (.bl (i != j)) H
  | .str i, .str j => Q (.bl (!decide (i = j))) H
  | _, _ => False
theorem o_eq : OpR X (compareOp .Eq) dEq := by
  intro pins s σ H x y v u Q I rx ry q
  cases x <;> cases y <;> first
    | exact False.elim q
    | (refine op_eq _ _ _ _ _ _ _ _ _ I rx ry ⟨rfl, ?_⟩
       have e : ∀ (i j : Int), decide (V.int i = V.int j) = decide (i = j) := fun i j => by simp
       have e2 : ∀ (i j : Str), decide (V.str i = V.str j) = decide (i = j) := fun i j => by simp
       first
         | (rw [e]; exact q)
         | (rw [e2]; exact q)
         | (rw [dec_bl]; exact q))
theorem o_ne : OpR X (compareOp .NotEq) dNe := by
  intro pins s σ H x y v u Q I rx ry q
  cases x <;> cases y <;> first
    | exact False.elim q
    | (refine op_ne _ _ _ _ _ _ _ _ _ I rx ry ⟨rfl, ?_⟩
       have e : ∀ (i j : Int), decide (V.int i = V.int j) = decide (i = j) := fun i j => by simp
       have e2 : ∀ (i j : Str), decide (V.str i = V.str j) = decide (i = j) := fun i j => by simp
       first
         | (rw [e]; exact q)
         | (rw [e2]; exact q)
         | (rw [dec_bl]; exact q))
theorem t_cmp {op : CmpOp} {r : R2} (ho : OpR X (compareOp op) r) (ha : PE X a ta) (hb : PE X b tb) (hm : behindInMarks op b = false) : PT X (.Compare a [op] [b] pos) (dTest (tOp r ta tb)) := by
  rw [dTest_eq]
  exact pt_cmpR ho ha hb hm
theorem t_val {e : Expr} {t : TE} (h : PE X e t) (he : ∀ whole, isTrue e X.env whole = (do let v ← whole; standAt e.pos; holding [v] (truthy v)) := by intro _; rfl) : PT X e (dTest t) := by
  rw [dTest_eqB]
  exact pt_val h he
theorem w_and (ha : PT X a tA) (hb : PW X (.BoolOp .And (b :: rest) pos) tB') : PW X (.BoolOp .And (a :: b :: rest) pos) (dAnd tA tB') := by
  rw [dAnd_eq]
  exact pw_and ha hb
theorem w_or (ha : PT X a tA) (hb : PW X (.BoolOp .Or (b :: rest) pos) tB') : PW X (.BoolOp .Or (a :: b :: rest) pos) (dOr tA tB') := by
  rw [dOr_eq]
  exact pw_or ha hb
theorem e_and (ha : PE X a ta) (hb : PE X (.BoolOp .And (b :: rest) pos) tb) : PE X (.BoolOp .And (a :: b :: rest) pos) (dAndV ta tb) := by
  rw [dAndV_eq]
  exact pe_and ha hb
theorem e_not (ha : PE X a ta) : PE X (.UnaryOp .Not a pos) (dNotV ta) := by
  rw [dNotV_eq]
  exact pe_not ha
theorem s_if {c : Expr} {a b : List Stmt} {tc : TT} {t u : TS} (hc : PT X c tc) (ha : PSs X a t) (hb : PSs X b u) : PS X (.If c a b pos) (dIfS tc t u) := by
  rw [dIfS_eq]
  exact ps_if hc ha hb
def tCut (R : L2.St → Hp → Prop) (t u : TS) : TS := fun D σ H => t { D with nx := R } σ H ∧ ∀ σ' H', R σ' H' → u D σ' H'
theorem ss_cut (R : L2.St → Hp → Prop) {st : Stmt} {r : List Stmt} {t u : TS} (h1 : PS X st t) (h2 : PSs X r u) : PSs X (st :: r) (tCut R t u) := by
  intro pins s σ H D I h
  refine wpAny_execs_cons (thn (h1 pins s σ H { D with nx := R } I h.1) fun f s1 q => ?_)
  cases f with
  | next =>
    obtain ⟨σ', H', I', q⟩ := q
    exact h2 pins s1 σ' H' D I' (h.2 σ' H' q)
  | ret v => exact q
  | brk => exact q
  | cont => exact q
structure Cal (P : Program) (w : World) (K : PySem.W.Frag) (mg : Str → Option Value) (base : Heap) (x : Str) (ps : List Str) (k : Nat) (sp : Sp) : Prop where
  ex : ∃ (f : Addr) (fd : FuncData), mg x = some (.ref f) ∧ PySem.W.keepIn K (.ref f) = true ∧ Binds K fd ps [] ∧ FnOk P w K mg base (CXE P w) k f fd ps sp ∧
    ∃ (oc : Value) (od : Option Addr) (osl : Array (Option Value)), K.lookup f = some ⟨oc, od, .func fd, osl⟩
def dCall (sp : Sp) (t : TA) : TE := fun σ H Q => t σ H fun vs H1 => sp vs H1 Q E0
theorem dCall_eq (sp : Sp) (t : TA) : dCall sp t = tCall sp [] E0 t := by
  funext σ H Q
  unfold dCall tCall
  simp only [List.append_nil]
theorem e_call {x : Str} {ps : List Str} {k k' : Nat} {sp : Sp} {p : Pos} {e : Expr} {es : List Expr} {t : TA} (C : Cal X.prog X.w X.K X.mg X.base x ps k sp) (hr : Room k' X.A) (hk : k ≤ k') (hg : Gl X x)
    (ha : PA X (e :: es) t) (hdb : (x == ("__debug__" : Str)) = false := by decide) (he : starEach (e :: es) X.env = (false, eval e X.env) :: starEach es X.env := by rfl) (hpl : (backTo pos (starEach es X.env)).any (·.1) = false := by rfl) :
    PE X (.Call (.Name x p) (e :: es) [] pos) (dCall sp t) := by
  obtain ⟨f, fd, h1, h2, h3, h4, _⟩ := C.ex
  rw [dCall_eq]
  exact pe_call (h4.mono hk) hr hg h1 h2 h3 .nil passX0 ha hdb he hpl
def lenOk (xs : List V) : Bool := Nat.ble xs.length 1000
theorem lenOk_le {xs : List V} (h : lenOk xs = true) : xs.length ≤ sizeLine := Nat.le_trans (Nat.le_of_ble_eq_true h) (by decide)
def dTup (t : TA) : TE := fun σ H Q => t σ H fun xs H1 => match lenOk xs with
  | true => ∀ p H', Same H1 H' → H' p = some (.tup xs) → Q (.ref p) H'
  | false => False
def dLst (t : TA) : TE := fun σ H Q => t σ H fun xs H1 => match lenOk xs with
  | true => ∀ p H', Same H1 H' → H' p = some (.lst xs) → Q (.ref p) H'
  | false => False
theorem same_upd {H : Hp} {p : Addr} {o : HO} (h : H p = none) : Same H (upd H p o) := fun b u e => by
  rw [upd_ne (ne_of_none e h)]
  exact e
theorem e_tup {es : List Expr} {t : TA} {x1} (h : PA X es t) : PE X (.Tuple es x1 pos) (dTup t) := by
  intro pins s σ H Q I hq
  refine wpAny_Tuple_spliced (thn (h pos pins s σ H _ I hq) fun us s1 ⟨xs, H1, I1, r, q⟩ => ?_)
  cases hl : lenOk xs with
  | false =>
    have q' : (match lenOk xs with | true => _ | false => False : Prop) := q
    rw [hl] at q'
    exact q'.elim
  | true =>
    have z := lenOk_le hl
    have q' : (match lenOk xs with | true => ∀ p H', Same H1 H' → H' p = some (.tup xs) → Q (.ref p) H' | false => False : Prop) := q
    rw [hl] at q'
    refine ⟨by rw [← r.length]; exact z, ?_⟩
    have hf : H1 s1.heap.objs.size = none := I1.hok.fresh (Nat.le_refl _)
    refine ⟨.ref s1.heap.objs.size, upd H1 s1.heap.objs.size (.tup xs), I1.laid (t' := s1.toks) (fun b u e => Heap.get?_push_of_some _ e) (Nat.le_refl _) ?_, rfl, q' _ _ (same_upd hf) upd_same⟩
    exact ⟨z, us, r, ⟨_, Heap.get?_push_size _ rfl, rfl, _, rfl⟩⟩
theorem e_lst {es : List Expr} {t : TA} (h : PA X es t) : PE X (.List es pos) (dLst t) := by
  intro pins s σ H Q I hq
  refine wpAny_List_spliced (thn (h pos pins s σ H _ I hq) fun us s1 ⟨xs, H1, I1, r, q⟩ => ?_)
  cases hl : lenOk xs with
  | false =>
    have q' : (match lenOk xs with | true => _ | false => False : Prop) := q
    rw [hl] at q'
    exact q'.elim
  | true =>
    have z := lenOk_le hl
    have q' : (match lenOk xs with | true => ∀ p H', Same H1 H' → H' p = some (.lst xs) → Q (.ref p) H' | false => False : Prop) := q
    rw [hl] at q'
    refine ⟨by rw [← r.length]; exact z, ?_⟩
    have hf : H1 s1.heap.objs.size = none := I1.hok.fresh (Nat.le_refl _)
    refine ⟨.ref s1.heap.objs.size, upd H1 s1.heap.objs.size (.lst xs), I1.laid (t' := s1.toks) (fun b u e => Heap.get?_push_of_some _ e) (Nat.le_refl _) ?_, rfl, q' _ _ (same_upd hf) upd_same⟩
    exact ⟨z, us, 0, r, Heap.get?_push_size _ rfl⟩
def nthI (xs : List V) : Int → Option V
  | .ofNat n => xs[n]?
  | .negSucc _ => none
theorem nthI_at {xs : List V} {i : Int} {v : V} (h : nthI xs i = some v) : atI xs i = some v := by
  cases i with
  | ofNat n => exact atI_nat h
  | negSucc n => cases h
def dIxT : R2 := fun x y H Q => match x, y with
  | .ref p, .int i => ∃ xs, H p = some (.tup xs) ∧ match nthI xs i with
    | some v => Q v H
    | none => False
  | _, _ => False
def dIxL (K : PySem.W.Frag) : R2 := fun x y H Q => match x, y with
  | .ref p, .int i => ∃ xs v, SqL K H p xs ∧ atI xs i = some v ∧ Q v H
  | _, _ => False
theorem i_tup : IxR X dIxT := by
  intro value slice pins s σ H x y v u Q I rx ry h hs
  cases x <;> cases y <;> first
    | exact False.elim h
    | (obtain ⟨xs, e, q⟩ := h
       cases z : nthI xs _ with
       | none =>
         rw [z] at q
         exact q.elim
       | some w =>
         rw [z] at q
         exact ix_tup value slice pins s σ H _ _ v u Q I rx ry ⟨_, xs, _, w, rfl, rfl, SqT.of e, nthI_at z, q⟩ hs)
theorem i_lst : IxR X (dIxL X.K) := by
  intro value slice pins s σ H x y v u Q I rx ry h hs
  cases x <;> cases y <;> first
    | exact False.elim h
    | (obtain ⟨xs, w, e, z, q⟩ := h
       exact ix_list value slice pins s σ H _ _ v u Q I rx ry ⟨_, xs, _, w, rfl, rfl, e, z, q⟩ hs)
theorem e_ty (T : String) {x : Str} (hg : Gl X x) (hm : X.mg x = none) (hv : bootBuiltins x = some (.type T)) (hn : x ≠ "__name__" := by decide) (hd : (x == ("__debug__" : Str)) = false := by decide) : PE X (.Name x pos) (tC (.ty T)) :=
  pe_bltn hg hm hv rfl hn hd
def dAbs : List V → Hp → VK → Prop := fun xs H Q => match xs with
  | [.int i] => Q (.int (i.natAbs : Int)) H
  | _ => False
theorem c_abs : CallR X (.builtin "abs") dAbs := by
  intro pins s σ H xs us Q I r h
  match xs, h with
  | [.int i], h =>
    have e : (if i < 0 then -i else i) = (i.natAbs : Int) := by split <;> omega
    exact call_abs pins s σ H _ us Q I r ⟨i, rfl, by rw [e]; exact h⟩
def dLen (K : PySem.W.Frag) : List V → Hp → VK → Prop := fun xs H Q => match xs with
  | [.ref p] => ∃ ys, (SqL K H p ys ∨ SqT K H p ys) ∧ Q (.int ys.length) H
  | [.str z] => z.length ≤ sizeLine ∧ Q (.int z.length) H
  | _ => False
theorem c_len : CallR X (.builtin "len") (dLen X.K) := by
  intro pins s σ H xs us Q I r h
  match xs, h with
  | [.ref p], ⟨ys, h1, q⟩ => exact call_len_seq pins s σ H _ us Q I r ⟨p, ys, rfl, h1, q⟩
  | [.str z], ⟨h1, q⟩ => exact call_len_str pins s σ H _ us Q I r ⟨z, rfl, h1, q⟩
def tyB (t c : String) : Option Bool :=
  if t = c then some true else if t = "bool" ∧ c = "int" then some true
  else if (t = "int" ∨ t = "bool" ∨ t = "str" ∨ t = "tuple" ∨ t = "list" ∨ t = "dict" ∨ t = "NoneType") ∧ (c = "int" ∨ c = "bool" ∨ c = "str" ∨ c = "tuple" ∨ c = "list") then some false else none
def tyHO : HO → Option String
  | .lst _ => some "list"
  | .frz _ (.lst _) => some "list"
  | .tup _ => some "tuple"
  | .dK _ => some "dict"
  | .dT _ => some "dict"
  | _ => none
def dIsi : List V → Hp → VK → Prop := fun xs H Q => match xs with
  | [.non, .ty c] => ∃ b, tyB "NoneType" c = some b ∧ Q (.bl b) H
  | [.bl _, .ty c] => ∃ b, tyB "bool" c = some b ∧ Q (.bl b) H
  | [.int _, .ty c] => ∃ b, tyB "int" c = some b ∧ Q (.bl b) H
  | [.str _, .ty c] => ∃ b, tyB "str" c = some b ∧ Q (.bl b) H
  | [.ref p, .ty c] => ∃ u b t, H p = some u ∧ tyHO u = some t ∧ tyB t c = some b ∧ Q (.bl b) H
  | _ => False
theorem kit_tyB (K : PySem.W.Frag) {t c : String} {b : Bool} (h : tyB t c = some b) : PySem.W.kitOne K (.type t) (.type c) = some b := by
  unfold tyB at h
  split at h
  · rename_i e
    subst e
    cases h
    unfold PySem.W.kitOne
    rw [if_pos (by simp)]
  · split at h
    · rename_i e
      obtain ⟨rfl, rfl⟩ := e
      cases h
      kernel_rfl
    · split at h
      · rename_i e1 e2 e
        cases h
        obtain ⟨ht, hc⟩ := e
        rcases ht with rfl | rfl | rfl | rfl | rfl | rfl | rfl <;> rcases hc with rfl | rfl | rfl | rfl | rfl <;> first
          | exact absurd rfl e1
          | exact absurd ⟨rfl, rfl⟩ e2
          | kernel_rfl
      · cases h
theorem c_isi : CallR X (.builtin "isinstance") dIsi := by
  intro pins s σ H xs us Q I r h
  match xs, h with
  | [.non, .ty c], ⟨b, e, q⟩ =>
    obtain ⟨u, w', rfl, r1, r2⟩ := vals2 r
    cases (show w' = Value.type c from r2)
    exact isinst_ok I r1 .non (kit_tyB X.K e) fun tk => ⟨.bl b, H, I.tok _, rfl, q⟩
  | [.bl y, .ty c], ⟨b, e, q⟩ =>
    obtain ⟨u, w', rfl, r1, r2⟩ := vals2 r
    cases (show w' = Value.type c from r2)
    exact isinst_ok I r1 (.bl y) (kit_tyB X.K e) fun tk => ⟨.bl b, H, I.tok _, rfl, q⟩
  | [.int y, .ty c], ⟨b, e, q⟩ =>
    obtain ⟨u, w', rfl, r1, r2⟩ := vals2 r
    cases (show w' = Value.type c from r2)
    exact isinst_ok I r1 (.int y) (kit_tyB X.K e) fun tk => ⟨.bl b, H, I.tok _, rfl, q⟩
  | [.str y, .ty c], ⟨b, e, q⟩ =>
    obtain ⟨u, w', rfl, r1, r2⟩ := vals2 r
    cases (show w' = Value.type c from r2)
    exact isinst_ok I r1 (.str y) (kit_tyB X.K e) fun tk => ⟨.bl b, H, I.tok _, rfl, q⟩
  | [.ref p, .ty c], ⟨o, b, t, e1, e2, e, q⟩ =>
    obtain ⟨u, w', rfl, r1, r2⟩ := vals2 r
    cases (show w' = Value.type c from r2)
    have ty : TyOf X.K H (.ref p) (.type t) := by
      cases o with
      | lst ys => cases e2; exact .lst e1
      | tup ys => cases e2; exact .tup e1
      | dK ys => cases e2; exact .dK e1
      | dT ys => cases e2; exact .dT e1
      | frz ob u =>
        cases u with
        | lst ys => cases e2; exact .frz e1
        | _ => cases e2
      | _ => cases e2
    exact isinst_ok I r1 ty (kit_tyB X.K e) fun tk => ⟨.bl b, H, I.tok _, rfl, q⟩
end
section
variable {X : Cx} {pos : Pos}
def dWhile (c : TT) (tb : TS) : TS := fun D σ H => ∃ W : Nat → L2.St → Hp → Prop, (∃ m, W m σ H) ∧ ∀ m σ H, W m σ H →
  c σ H fun b H1 => Br b (tb { D with nx := fun σ' H' => ∃ m', m' < m ∧ W m' σ' H', ct := fun σ' H' => ∃ m', m' < m ∧ W m' σ' H', bk := D.nx } σ H1) (D.nx σ H1)
theorem s_while {c : Expr} {body : List Stmt} {tc : TT} {tb : TS} (hp : PassesOwn (model X.prog X.w) X.A X.env X.xe) (hc : PT X c tc) (hb : PSs X body tb) : PS X (.While c body [] pos) (dWhile tc tb) := by
  intro pins s σ H D I h
  obtain ⟨W, ⟨m0, w0⟩, turn⟩ := h
  refine wpAny_While (codeAny_whileLoop (fun n s' => ∃ σ' H', Inv X pins σ' H' s' ∧ W n σ' H') ?_ m0 ⟨σ, H, I, w0⟩)
  rintro n s1 ⟨σ1, H1, I1, w1⟩
  refine wpAny_passesOwn hp (thn (hc pins s1 σ1 H1 _ I1 (turn n σ1 H1 w1)) fun b s2 ⟨H2, I2, q2⟩ => ?_)
  cases b with
  | true =>
    have q2 := q2.1 rfl
    rw [if_pos rfl]
    refine wpAny_passesOwn hp (thn (hb pins s2 σ1 H2 _ I2 q2) fun f s3 q3 => ?_)
    cases f with
    | next =>
      obtain ⟨σ3, H3, I3, m', hm, w3⟩ := q3
      exact ⟨m', hm, σ3, H3, I3, w3⟩
    | cont =>
      obtain ⟨σ3, H3, I3, m', hm, w3⟩ := q3
      exact ⟨m', hm, σ3, H3, I3, w3⟩
    | brk => exact q3
    | ret v => exact q3
  | false =>
    rw [if_neg Bool.false_ne_true]
    exact wpAny_execs_nil ⟨σ1, H2, I2, q2.2 rfl⟩
end
structure Dfn (K : PySem.W.Frag) (mg : Str → Option Value) (x : Str) (st : Stmt) (ps : List Str) : Prop where
  ex : ∃ (f : Addr) (fd : FuncData), Fun K x x st f fd ∧ mg x = some (.ref f) ∧ Binds K fd ps []
section
variable {P : Program} {w : World} {K : PySem.W.Frag} {mg : Str → Option Value} {base : Heap}
theorem Dfn.calX {x : Str} {st : Stmt} {N ps : List Str} {k : Nat} {sp : Sp} (d : Dfn K mg x st ps) (S : FnScope N ps (defScope st)) (len : ∀ vs H Q E, sp vs H Q E → vs.length = ps.length)
    (hbody : ∀ (f : Addr) (cdv : Value) (A : Around) (outer : List Env) (s : Shared) (H : Hp) (vs : List V) (Q : VK) (E : XK), Room k (A.deeper (envOfC x (defScope st) s.heap.objs.size f cdv)) → sp vs H Q E →
      ∃ t, PSs (cxOf (CXE P w) P w K mg base N x (defScope st) f cdv A outer s H E) (defBody st) t ∧ t { nx := fun _ H' => Q .non H', rt := Q } (start N vs) H) : Cal P w K mg base x ps (k + 1) sp := by
  obtain ⟨f, fd, F, hm, hb⟩ := d.ex
  obtain ⟨oc, od, kV, doc, pm, an, cdv, ct, osl, rfl, lk, hcd⟩ := F.ex
  exact ⟨f, _, hm, F.kp, hb, fn_of lk hcd S len fun A outer s H vs Q E hr hsp => hbody f cdv A outer s H vs Q E hr hsp, oc, od, osl, lk⟩
theorem Dfn.cal {x : Str} {st : Stmt} {N ps : List Str} {k : Nat} {sp : Sp} (d : Dfn K mg x st ps) (S : FnScope N ps (defScope st)) (len : ∀ vs H Q E, sp vs H Q E → vs.length = ps.length)
    (hbody : ∀ (f : Addr) (cdv : Value) (A : Around) (outer : List Env) (s : Shared) (H : Hp) (vs : List V) (Q : VK) (E : XK), Room k (A.deeper (envOfC x (defScope st) s.heap.objs.size f cdv)) → sp vs H Q E →
      ∃ t, PSs (cxOf (CXE P w) P w K mg base N x (defScope st) f cdv A outer s H E).nox (defBody st) t ∧ t { nx := fun _ H' => Q .non H', rt := Q } (start N vs) H) : Cal P w K mg base x ps (k + 1) sp :=
  d.calX S len fun f cdv A outer s H vs Q E hr hsp => by
    obtain ⟨t, h, q⟩ := hbody f cdv A outer s H vs Q E hr hsp
    exact ⟨t, h.nox, q⟩
end
theorem sm_sqT {K : PySem.W.Frag} {H H' : Hp} {a : Addr} {xs : List V} (e : Same H H') (h : SqT K H a xs) : SqT K H' a xs := by
  rcases h with (h | ⟨o, h⟩) | h
  · exact .inl (.inl (e _ _ h))
  · exact .inl (.inr ⟨o, e _ _ h⟩)
  · exact .inr h
mutual
inductive Rp (K : PySem.W.Frag) (H : Hp) : V → PyData → Prop where
  | non : Rp K H .non .none
  | bl (b : Bool) : Rp K H (.bl b) (.bool b)
  | int (i : Int) : Rp K H (.int i) (.int i)
  | str (x : Str) : Rp K H (.str x) (.str x)
  | tup {p : Addr} {xs : List V} {ds : List PyData} : SqT K H p xs → RpL K H xs ds → Rp K H (.ref p) (.tuple ds)
  | lst {p : Addr} {xs : List V} {ds : List PyData} : SqL K H p xs → RpL K H xs ds → Rp K H (.ref p) (.list ds)
inductive RpL (K : PySem.W.Frag) (H : Hp) : List V → List PyData → Prop where
  | nil : RpL K H [] []
  | cons {v : V} {d : PyData} {vs : List V} {ds : List PyData} : Rp K H v d → RpL K H vs ds → RpL K H (v :: vs) (d :: ds)
end
mutual
theorem Rp.up {K : PySem.W.Frag} {H H' : Hp} (s : Same H H') : ∀ {v : V} {d : PyData}, Rp K H v d → Rp K H' v d
  | _, _, .non => .non
  | _, _, .bl b => .bl b
  | _, _, .int i => .int i
  | _, _, .str x => .str x
  | _, _, .tup h r => .tup (sm_sqT s h) (RpL.up s r)
  | _, _, .lst h r => .lst (s.seq h) (RpL.up s r)
theorem RpL.up {K : PySem.W.Frag} {H H' : Hp} (s : Same H H') : ∀ {v : List V} {d : List PyData}, RpL K H v d → RpL K H' v d
  | _, _, .nil => .nil
  | _, _, .cons h r => .cons (Rp.up s h) (RpL.up s r)
end
section
variable {X : Cx}
mutual
theorem Rp.reads {pins : List (Addr × Obj)} {σ : L2.St} {H : Hp} {s : Shared} (I : Inv X pins σ H s) : ∀ {v : V} {d : PyData} {u : Value}, Rp X.K H v d → L2.RelV v u → ∃ as, Reads s.heap u d as
  | _, _, _, .non, r => by cases r; exact ⟨_, Reads.none⟩
  | _, _, _, .bl b, r => by cases r; exact ⟨_, Reads.bool b⟩
  | _, _, _, .int i, r => by obtain ⟨t, rfl⟩ := r; exact ⟨_, Reads.int i t⟩
  | _, _, _, .str i, r => by obtain ⟨t, rfl⟩ := r; exact ⟨_, Reads.str i t⟩
  | _, _, _, .tup h q, r => by
    cases r
    obtain ⟨its, rv, ⟨o, e, c, n, dd⟩, _⟩ := I.tuple h
    obtain ⟨as, ra⟩ := RpL.reads I q rv
    exact ⟨as, reads_tuple_at e c dd (by simpa using ra)⟩
  | _, _, _, .lst h q, r => by
    cases r
    obtain ⟨its, rv, ⟨o, n, e, c, _, dd⟩, _⟩ := I.list h
    obtain ⟨as, ra⟩ := RpL.reads I q rv
    exact ⟨_, reads_list_at e c dd (by simpa using ra)⟩
theorem RpL.reads {pins : List (Addr × Obj)} {σ : L2.St} {H : Hp} {s : Shared} (I : Inv X pins σ H s) : ∀ {v : List V} {d : List PyData} {u : List Value}, RpL X.K H v d → Vals v u → ∃ as, ReadsAll s.heap u d as
  | _, _, _, .nil, r => by cases r; exact ⟨_, ReadsAll.nil⟩
  | _, _, _, .cons h q, r => by
    cases r with
    | cons r1 r2 =>
      obtain ⟨as, ra⟩ := Rp.reads I h r1
      obtain ⟨bs, rb⟩ := RpL.reads I q r2
      exact ⟨_, ReadsAll.cons ra rb⟩
end
def dEqD (K : PySem.W.Frag) : R2 := fun x y H Q => ∃ d e, Rp K H x d ∧ Rp K H y e ∧ SeqAt.shaped d = true ∧ SeqAt.shaped e = true ∧ Q (.bl (PyData.eqv d e)) H
def dNeD (K : PySem.W.Frag) : R2 := fun x y H Q => ∃ d e, Rp K H x d ∧ Rp K H y e ∧ SeqAt.shaped d = true ∧ SeqAt.shaped e = true ∧ Q (.bl (!PyData.eqv d e)) H
theorem o_eqD (hu : X.A.units + 64 < cLine) : OpR X (compareOp .Eq) (dEqD X.K) := by
  intro pins s σ H x y v u Q I rx ry q
  obtain ⟨d, e, h1, h2, h3, h4, q⟩ := q
  obtain ⟨as, r1⟩ := h1.reads I rx
  obtain ⟨bs, r2⟩ := h2.reads I ry
  exact PyProof.Rows.eq_dataH r1 r2 h3 h4 hu ⟨.bl _, H, I, rfl, q⟩
theorem o_neD (hu : X.A.units + 64 < cLine) : OpR X (compareOp .NotEq) (dNeD X.K) := by
  intro pins s σ H x y v u Q I rx ry q
  obtain ⟨d, e, h1, h2, h3, h4, q⟩ := q
  obtain ⟨as, r1⟩ := h1.reads I rx
  obtain ⟨bs, r2⟩ := h2.reads I ry
  exact PyProof.Rows.ne_dataH r1 r2 h3 h4 hu ⟨.bl _, H, I, rfl, q⟩
end
end Lw
end
section
set_option Elab.async false
set_option linter.all false
set_option maxRecDepth 100000
set_option maxHeartbeats 4000000
set_option exponentiation.threshold 5000
namespace Lw
open PySem PySem.Spec PyProof.Rows L2
def cell (ns : List Int) (k : Int) : Int := if ns.length = 0 then 0 else ns.getD (k % (ns.length : Int)).toNat 0
theorem bd_lit {n : Nat} {x : Int} (h : Nat.blt x.natAbs (2 ^ n) = true) : Bd n x := by
  unfold Bd
  exact Nat.lt_of_lt_of_le (Nat.lt_of_succ_le (Nat.le_of_ble_eq_true h)) (Nat.le_refl _)
theorem Bd.mono {m n : Nat} {x : Int} (h : Bd m x) (l : m ≤ n) : Bd n x := Nat.lt_of_lt_of_le h (Nat.pow_le_pow_right (by decide) l)
theorem Bd.of_le {n : Nat} {x y : Int} (h : Bd n y) (l : x.natAbs ≤ y.natAbs) : Bd n x := Nat.lt_of_le_of_lt l h
theorem bd_of {x b : Int} {n : Nat} (h1 : -b ≤ x) (h2 : x ≤ b) (h : Bd n b) : Bd n x := h.of_le (by omega)
def lowT (t b : Int) : Int := t / (Int.gcd t b : Int)
def lowB (t b : Int) : Int := b / (Int.gcd t b : Int)
theorem lowT_mul (t b : Int) : lowT t b * (Int.gcd t b : Int) = t := Int.ediv_mul_cancel (Int.gcd_dvd_left ..)
theorem lowB_mul (t b : Int) : lowB t b * (Int.gcd t b : Int) = b := Int.ediv_mul_cancel (Int.gcd_dvd_right ..)
structure Fq (n : Nat) (H : Hp) (p : Addr) (a b : Int) : Prop where
  at' : H p = some (.tup [.int a, .int b])
  pos : 0 < b
  ba : Bd n a
  bb : Bd n b
abbrev Q2 := Int × Int
theorem cok {m n : Nat} {i j : Int} (h : Bd m i) (h' : Bd n j) (l : m ≤ 4000) (l' : n ≤ 4000) : COk i j := .inl ⟨h.mono l, h'.mono l'⟩
structure Pq (n : Nat) (H : Hp) (r : Addr) (lo : Q2) (hi : Option Q2) : Prop where
  ex : ∃ l x, H r = some (.tup [.ref l, x]) ∧ Fq n H l lo.1 lo.2 ∧ (hi = none ∧ x = .non ∨ ∃ q y, hi = some y ∧ x = .ref q ∧ Fq n H q y.1 y.2)
theorem gcd_fmod (a b : Int) : Int.gcd b (a.fmod b) = Int.gcd a b := by
  rw [Int.fmod_def, Int.gcd_sub_mul_left_right, Int.gcd_comm]
theorem fmod_lt (a : Int) {b : Int} (h : b ≠ 0) : (a.fmod b).natAbs < b.natAbs := by
  have e0 := Int.emod_nonneg a h
  have e1 := Int.emod_lt a h
  rw [Int.fmod_eq_emod]
  by_cases c : 0 ≤ b ∨ b ∣ a
  · rw [if_pos c]
    omega
  · rw [if_neg c]
    have e2 : a % b ≠ 0 := fun z => c (.inr (Int.dvd_of_emod_eq_zero z))
    have : ¬ 0 ≤ b := fun z => c (.inl z)
    omega
def frT (t b : Int) : Int := if b < 0 then -lowT t b else lowT t b
def frB (t b : Int) : Int := if b < 0 then -lowB t b else lowB t b
def dvs (t b : Int) : Int := if b < 0 then -(Int.gcd t b : Int) else (Int.gcd t b : Int)
theorem gcd_ne (t : Int) {b : Int} (hb : b ≠ 0) : 0 < (Int.gcd t b : Int) := by
  have : 0 < Int.gcd t b := Int.gcd_pos_of_ne_zero_right _ hb
  omega
theorem dvs_ne (t : Int) {b : Int} (hb : b ≠ 0) : dvs t b ≠ 0 := by
  have := gcd_ne t hb
  unfold dvs
  split <;> omega
theorem bd_dvs {n : Nat} (t : Int) {b : Int} (hb : b ≠ 0) (h : Bd n b) : Bd n (dvs t b) := by
  have l := Nat.le_of_dvd (by omega : 0 < b.natAbs) (show Int.gcd t b ∣ b.natAbs from Nat.gcd_dvd_right ..)
  refine h.of_le ?_
  unfold dvs
  split <;> omega
theorem fdiv_T (t : Int) {b : Int} (hb : b ≠ 0) : t.fdiv (dvs t b) = frT t b := by
  have g := gcd_ne t hb
  have h := lowT_mul t b
  unfold dvs frT
  split
  · have e : t = (-lowT t b) * (-(Int.gcd t b : Int)) := by rw [Int.neg_mul_neg]; exact h.symm
    exact (congrArg (fun z => z.fdiv (-(Int.gcd t b : Int))) e).trans (Int.mul_fdiv_cancel _ (by omega))
  · exact (congrArg (fun z => z.fdiv (Int.gcd t b : Int)) h.symm).trans (Int.mul_fdiv_cancel _ (by omega))
theorem fdiv_B (t : Int) {b : Int} (hb : b ≠ 0) : b.fdiv (dvs t b) = frB t b := by
  have g := gcd_ne t hb
  have h := lowB_mul t b
  unfold dvs frB
  split
  · have e : b = (-lowB t b) * (-(Int.gcd t b : Int)) := by rw [Int.neg_mul_neg]; exact h.symm
    exact (congrArg (fun z => z.fdiv (-(Int.gcd t b : Int))) e).trans (Int.mul_fdiv_cancel _ (by omega))
  · exact (congrArg (fun z => z.fdiv (Int.gcd t b : Int)) h.symm).trans (Int.mul_fdiv_cancel _ (by omega))
structure FrAt (H : Hp) (p : Addr) (t b : Int) : Prop where
  at' : H p = some (.tup [.int (frT t b), .int (frB t b)])
end Lw
end
section
set_option Elab.async false
set_option linter.all false
set_option maxRecDepth 100000
set_option maxHeartbeats 4000000
namespace Lw
open PySem PySem.Spec PyProof.Rows L2
def ItK (kd : Bool) (h : Heap) (it l : Addr) (k : Nat) : Prop := match kd with
  | true => h.IsListIter it l k
  | false => h.IsTupleIter it l k
def SeK (kd : Bool) (h : Heap) (l : Addr) (xs : Array Value) : Prop := match kd with
  | true => h.IsList l xs
  | false => h.IsTuple l xs
def SqK (kd : Bool) (K : PySem.W.Frag) (H : Hp) (a : Addr) (xs : List V) : Prop := match kd with
  | true => SqL K H a xs
  | false => SqT K H a xs
theorem ItK.ob {kd : Bool} {h : Heap} {it l : Addr} {k : Nat} (x : ItK kd h it l k) : ∃ o, h.get? it = some o ∧ ∀ v, o.data ≠ .cell v := by
  cases kd with
  | true => obtain ⟨o, e, _, d⟩ := x; exact ⟨o, e, fun v z => by rw [d] at z; cases z⟩
  | false => obtain ⟨o, e, _, d⟩ := x; exact ⟨o, e, fun v z => by rw [d] at z; cases z⟩
theorem ItK.mv {kd : Bool} {h h' : Heap} {it l : Addr} {k : Nat} (x : ItK kd h it l k) (q : ∀ o, h.get? it = some o → h'.get? it = some o) : ItK kd h' it l k := by
  cases kd with
  | true => obtain ⟨o, e, r⟩ := x; exact ⟨o, q o e, r⟩
  | false => obtain ⟨o, e, r⟩ := x; exact ⟨o, q o e, r⟩
theorem SeK.mv {kd : Bool} {h h' : Heap} {l : Addr} {xs : Array Value} (x : SeK kd h l xs) (q : ∀ o, h.get? l = some o → h'.get? l = some o) : SeK kd h' l xs := by
  cases kd with
  | true => obtain ⟨o, e, r⟩ := x; exact ⟨o, q o e, r⟩
  | false => obtain ⟨o, e, r⟩ := x; exact ⟨o, q o e, r⟩
theorem SeK.lt {kd : Bool} {h : Heap} {l : Addr} {xs : Array Value} (x : SeK kd h l xs) : l < h.objs.size := by
  cases kd with
  | true => obtain ⟨o, e, r⟩ := x; exact Heap.lt_size e
  | false => obtain ⟨o, e, r⟩ := x; exact Heap.lt_size e
section
variable {prog : Program} {w : World} {A : Around} {E : Value → Shared → Prop} {s : Shared}
theorem nextK_item {kd : Bool} {it l : Addr} {k : Nat} {xs : Array Value} {x : Value} {Q : Value → Shared → Prop} (h1 : ItK kd s.heap it l k) (h2 : SeK kd s.heap l xs) (hx : xs[k]? = some x)
    (q : ∀ g, ItK kd g it l (k + 1) → Heap.SameBut it s.heap g → Q x { s with heap := g }) : wpAny (model prog w) A (Builtin.SmallTypes.nextOf (.ref it)) Q E s := by
  cases kd with
  | true => exact wpAny_nextOf_list_item h1 h2 hx q
  | false =>
    have h1' : s.heap.IsTupleIter it l k := h1
    obtain ⟨io, e1, c1, d1⟩ := id h1'
    obtain ⟨lo, e2, _, m2, d2⟩ := (show s.heap.IsTuple l xs from h2)
    have ty := h1'.typeIs
    unfold Builtin.SmallTypes.nextOf; refine wpAny_bind (wpAny_callSpecial?_slot (name := Str.ofString "__next__") ty F.slot_tuple_iterator_next (wpAny_call_entry F.slot_tuple_iterator_next ty F.entry_tuple_iterator_next ?_ (F.args_tuple_iterator_next_1 _)))
    show wpAny _ _ (field (Value.ref it) 0 >>= _) _ _ _
    refine wpAny_bind (wpAny_field e1 d1 (x := .ref l) rfl ?_)
    show wpAny _ _ (if (Value.ref l == Value.none) = true then _ else _) _ _ _
    rw [if_neg (show ¬ (Value.ref l == Value.none) = true from Bool.false_ne_true)]
    show wpAny _ _ (field (Value.ref it) 1 >>= _) _ _ _
    refine wpAny_bind (wpAny_field e1 d1 (x := .int k 0) rfl ?_)
    show wpAny _ _ (seqItems? (Value.ref l) >>= _) _ _ _
    refine wpAny_bind (wpAny_seqItems e2 d2 ?_)
    simp only [Int.toNat_natCast, hx]
    refine wpAny_bind (wpAny_setField e1 d1 (by simp) (wpAny_pure ⟨x, rfl, wpAny_pure (q _ ?_ (Heap.SameBut.update ..))⟩))
    refine ⟨_, Heap.get?_update_self _ e1 (Obj.isFreed_of_fields (Obj.data_mapFields d1 _)), (Obj.cls_mapFields ..).trans c1, ?_⟩
    rw [Obj.data_mapFields d1]
    simp [rawInt]
theorem nextK_end {kd : Bool} {it l : Addr} {k : Nat} {xs : Array Value} {Q : Value → Shared → Prop} (hh : A.handled = none) (h1 : ItK kd s.heap it l k) (h2 : SeK kd s.heap l xs) (hx : xs[k]? = none)
    (q : ∀ g e, Heap.ExtBut it s.heap g → (∃ o, g.get? e = some o ∧ o.cls = .type "StopIteration") → E (.ref e) { s with heap := g }) : wpAny (model prog w) A (Builtin.SmallTypes.nextOf (.ref it)) Q E s := by
  cases kd with
  | true => exact wpAny_nextOf_list_end hh h1 h2 hx q
  | false =>
    have h1' : s.heap.IsTupleIter it l k := h1
    obtain ⟨io, e1, c1, d1⟩ := id h1'
    obtain ⟨lo, e2, _, m2, d2⟩ := (show s.heap.IsTuple l xs from h2)
    have ty := h1'.typeIs
    unfold Builtin.SmallTypes.nextOf; refine wpAny_bind (wpAny_callSpecial?_slot (name := Str.ofString "__next__") ty F.slot_tuple_iterator_next (wpAny_call_entry F.slot_tuple_iterator_next ty F.entry_tuple_iterator_next ?_ (F.args_tuple_iterator_next_1 _)))
    show wpAny _ _ (field (Value.ref it) 0 >>= _) _ _ _
    refine wpAny_bind (wpAny_field e1 d1 (x := .ref l) rfl ?_)
    show wpAny _ _ (if (Value.ref l == Value.none) = true then _ else _) _ _ _
    rw [if_neg (show ¬ (Value.ref l == Value.none) = true from Bool.false_ne_true)]
    show wpAny _ _ (field (Value.ref it) 1 >>= _) _ _ _
    refine wpAny_bind (wpAny_field e1 d1 (x := .int k 0) rfl ?_)
    show wpAny _ _ (seqItems? (Value.ref l) >>= _) _ _ _
    refine wpAny_bind (wpAny_seqItems e2 d2 ?_)
    simp only [Int.toNat_natCast, hx]
    refine wpAny_bind (wpAny_rule (wpAny_bind (wpAny_setField e1 d1 (by simp) ?_))); show wpAny _ _ (newExc (.type "StopIteration") [] >>= _) _ _ _; refine wpAny_bind ?_; simp only [newExc, newTuple]
    refine wpAny_bind (wpAny_newObj_type ?_ (by size_fits)); refine wpAny_bind (m := firstArgMember _ _) (wpAny_of_eq (a := Value.none) (by first | rfl | (simp only [firstArgMember]; rfl)) ?_)
    refine wpAny_newObj_type ?_ (by size_fits); simp only [raiseNew]; refine wpAny_bind (wpAny_handled ?_); first | rw [show A.in1.handled = none from hh] | rw [hh]
    refine wpAny_bind (wpAny_pure (wpAny_throw ?_))
    exact q _ _ (((Heap.SameBut.update ..).extBut.push _).push _) ⟨_, Heap.get?_push_size _ rfl, rfl⟩
structure ZAt (k1 k2 : Bool) (z TI TO i1 i2 l1 l2 : Addr) (n : Nat) (h : Heap) : Prop where
  z : IsZip h z TI TO .none
  ti : IsPair h TI (.ref i1) (.ref i2)
  to : ∃ a b, IsPair h TO a b
  a : ItK k1 h i1 l1 n
  b : ItK k2 h i2 l2 n
theorem zipK_item {k1 k2 : Bool} {z TI TO i1 i2 l1 l2 : Addr} {n : Nat} {xs ys : Array Value} {x y : Value} {Q : Option Value → Shared → Prop} (D : ZipApart z TI TO i1 i2 l1 l2) (Z : ZAt k1 k2 z TI TO i1 i2 l1 l2 n s.heap)
    (hl1 : SeK k1 s.heap l1 xs) (hl2 : SeK k2 s.heap l2 ys) (hx : xs[n]? = some x) (hy : ys[n]? = some y)
    (q : ∀ g, IsZip g z TI TO (rawInt s.heap.objs.size) → IsPair g TO x y → ItK k1 g i1 l1 (n + 1) → ItK k2 g i2 l2 (n + 1) → IsPair g s.heap.objs.size x y →
      (∀ c o, c ≠ z → c ≠ TO → c ≠ i1 → c ≠ i2 → s.heap.get? c = some o → g.get? c = some o) → Q (some (.ref s.heap.objs.size)) { s with heap := g }) :
    wpAny (model prog w) A (pyNext (.ref z)) Q E s := by
  obtain ⟨Zz, Zi, ⟨a, b, Zo⟩, Za, Zb⟩ := Z
  have hT : s.TypeIs (.ref z) "zip" := ⟨_, Zz, rfl⟩
  unfold pyNext; refine wpAny_bind (wpAny_attempt (wpAny_callSpecial?_slot (name := Str.ofString "__next__") hT F.slot_zip_next (wpAny_call_entry F.slot_zip_next hT F.entry_zip_next ?_ (F.args_zip_next_1 _))))
  show wpAny _ _ (field (Value.ref z) 2 >>= _) _ _ _
  refine wpAny_bind (wpAny_field Zz rfl (x := .bool false) rfl ?_)
  show wpAny _ _ (field (Value.ref z) 3 >>= _) _ _ _
  refine wpAny_bind (wpAny_field Zz rfl (x := .ref TI) rfl ?_)
  refine wpAny_bind (wpAny_seqItems Zi rfl ?_)
  show wpAny _ _ (Builtin.SmallTypes.ownedTupleIsFree (Value.ref z) >>= _) _ _ _
  refine wpAny_bind ?_; unfold Builtin.SmallTypes.ownedTupleIsFree
  refine wpAny_bind (wpAny_field Zz rfl (x := .none) rfl (wpAny_pure ?_)); simp only [if_true]; refine wpAny_bind (wpAny_rule ?_)
  refine wpAny_bind (wpAny_field Zz rfl (x := .ref TO) rfl ?_)
  refine wpAny_bind (wpAny_setField_rec Zz (by simp) fun g1 z1 s1 => ?_)
  have z1 : IsZip g1 z TI TO .ellipsis := z1
  refine wpAny_bind ?_; simp only [List.zipIdx_cons, List.zipIdx_nil, List.forIn_cons, List.forIn_nil]
  refine wpAny_bind (wpAny_bind (wpAny_onRaise ?_)); show wpAny _ _ (Builtin.SmallTypes.nextOf (Value.ref i1) >>= _) _ _ _
  refine wpAny_bind (nextK_item (Za.mv fun o e => s1.extBut _ _ D.i1z e) (hl1.mv fun o e => s1.extBut _ _ D.l1z e) hx fun g2 a2 s2 => wpAny_pure ?_)
  have o2 : IsPair g2 TO a b := s2.extBut _ _ D.TOi1 (s1.extBut _ _ D.TOz Zo)
  refine wpAny_bind (wpAny_seqItems o2 rfl ?_)
  refine wpAny_bind (wpAny_updateSeq_pair o2 fun g3 o3 s3 => ?_)
  have o3 : IsPair g3 TO x b := o3
  refine wpAny_bind (wpAny_letGo (wpAny_pure ?_))
  refine wpAny_bind (wpAny_bind (wpAny_onRaise ?_)); show wpAny _ _ (Builtin.SmallTypes.nextOf (Value.ref i2) >>= _) _ _ _
  refine wpAny_bind (nextK_item (Zb.mv fun o e => s3.extBut _ _ D.TOi2.symm (s2.extBut _ _ D.i12.symm (s1.extBut _ _ D.i2z e))) (hl2.mv fun o e => s3.extBut _ _ D.l2TO (s2.extBut _ _ D.l2i1 (s1.extBut _ _ D.l2z e))) hy fun g4 a4 s4 => wpAny_pure ?_)
  have o4 : IsPair g4 TO x b := s4.extBut _ _ D.TOi2 o3
  refine wpAny_bind (wpAny_seqItems o4 rfl ?_)
  refine wpAny_bind (wpAny_updateSeq_pair o4 fun g5 o5 s5 => ?_)
  have o5 : IsPair g5 TO x y := o5
  refine wpAny_bind (wpAny_letGo (wpAny_pure (wpAny_pure ?_)))
  refine wpAny_bind (wpAny_seqItems o5 rfl ?_)
  refine wpAny_bind (wpAny_newTuple ?_)
  have sz : g5.objs.size = s.heap.objs.size := by rw [s5.1, s4.1, s3.1, s2.1, s1.1]
  have z5 : IsZip g5 z TI TO .ellipsis := s5.extBut _ _ D.TOz.symm (s4.extBut _ _ D.i2z.symm (s3.extBut _ _ D.TOz.symm (s2.extBut _ _ D.i1z.symm z1)))
  have kp : ∀ c o, c ≠ z → c ≠ TO → c ≠ i1 → c ≠ i2 → s.heap.get? c = some o → g5.get? c = some o := fun c o n1 n2 n3 n4 e => s5.extBut _ _ n2 (s4.extBut _ _ n4 (s3.extBut _ _ n2 (s2.extBut _ _ n3 (s1.extBut _ _ n1 e))))
  have a5 : ItK k1 g5 i1 l1 (n + 1) := a2.mv fun o e => s5.extBut _ _ D.TOi1.symm (s4.extBut _ _ D.i12 (s3.extBut _ _ D.TOi1.symm e))
  have b5 : ItK k2 g5 i2 l2 (n + 1) := a4.mv fun o e => s5.extBut _ _ D.TOi2.symm e
  have zlt : z < g5.objs.size := Heap.lt_size z5
  show wpAny _ _ (Builtin.SmallTypes.ownedTupleHandOut (Value.ref z) (Value.ref g5.objs.size) >>= _) _ _ _
  refine wpAny_bind ?_; unfold Builtin.SmallTypes.ownedTupleHandOut
  have z6 : IsZip (g5.push { cls := .type "tuple", data := .seq #[x, y] }) z TI TO .ellipsis := Heap.get?_push_of_some _ z5
  refine wpAny_bind (wpAny_setField_rec z6 (by simp) fun g7 z7 s7 => ?_)
  have z7 : IsZip g7 z TI TO (rawInt g5.objs.size) := z7
  refine wpAny_setField_rec z7 (by simp) fun g8 z8 s8 => ?_
  have z8 : IsZip g8 z TI TO (rawInt g5.objs.size) := z8
  have up : ∀ c o, c ≠ z → g5.get? c = some o → g8.get? c = some o := fun c o n1 e => s8.extBut _ _ n1 (s7.extBut _ _ n1 (Heap.get?_push_of_some _ e))
  have t8 : IsPair g8 g5.objs.size x y := s8.extBut _ _ (Nat.ne_of_gt zlt) (s7.extBut _ _ (Nat.ne_of_gt zlt) (Heap.get?_push_size _ rfl))
  rw [sz] at z8 t8
  refine wpAny_pure ⟨_, rfl, ?_⟩
  show wpAny _ _ (pure (some (Value.ref g5.objs.size))) _ _ _
  rw [sz]
  exact wpAny_pure (q g8 z8 (up _ _ D.TOz o5) (a5.mv fun o e => up _ o D.i1z e) (b5.mv fun o e => up _ o D.i2z e) t8 fun c o n1 n2 n3 n4 e => up c o n1 (kp c o n1 n2 n3 n4 e))
theorem zipK_end {k1 k2 : Bool} {z TI TO i1 i2 l1 l2 : Addr} {n : Nat} {xs ys : Array Value} {Q : Option Value → Shared → Prop} (hh : A.handled = none) (D : ZipApart z TI TO i1 i2 l1 l2) (Z : ZAt k1 k2 z TI TO i1 i2 l1 l2 n s.heap)
    (hl1 : SeK k1 s.heap l1 xs) (hl2 : SeK k2 s.heap l2 ys) (hend : xs[n]? = none ∨ ys[n]? = none)
    (q : ∀ g, (∀ c o, c ≠ z → c ≠ TO → c ≠ i1 → c ≠ i2 → s.heap.get? c = some o → g.get? c = some o) → Q none { s with heap := g }) : wpAny (model prog w) A (pyNext (.ref z)) Q E s := by
  obtain ⟨Zz, Zi, ⟨a, b, Zo⟩, Za, Zb⟩ := Z
  have hT : s.TypeIs (.ref z) "zip" := ⟨_, Zz, rfl⟩
  unfold pyNext; refine wpAny_bind (wpAny_attempt (wpAny_callSpecial?_slot (name := Str.ofString "__next__") hT F.slot_zip_next (wpAny_call_entry F.slot_zip_next hT F.entry_zip_next ?_ (F.args_zip_next_1 _))))
  show wpAny _ _ (field (Value.ref z) 2 >>= _) _ _ _
  refine wpAny_bind (wpAny_field Zz rfl (x := .bool false) rfl ?_)
  show wpAny _ _ (field (Value.ref z) 3 >>= _) _ _ _
  refine wpAny_bind (wpAny_field Zz rfl (x := .ref TI) rfl ?_)
  refine wpAny_bind (wpAny_seqItems Zi rfl ?_)
  show wpAny _ _ (Builtin.SmallTypes.ownedTupleIsFree (Value.ref z) >>= _) _ _ _
  refine wpAny_bind ?_; unfold Builtin.SmallTypes.ownedTupleIsFree
  refine wpAny_bind (wpAny_field Zz rfl (x := .none) rfl (wpAny_pure ?_)); simp only [if_true]; refine wpAny_bind (wpAny_rule ?_)
  refine wpAny_bind (wpAny_field Zz rfl (x := .ref TO) rfl ?_)
  refine wpAny_bind (wpAny_setField_rec Zz (by simp) fun g1 z1 s1 => ?_)
  have z1 : IsZip g1 z TI TO .ellipsis := z1
  refine wpAny_bind ?_; simp only [List.zipIdx_cons, List.zipIdx_nil, List.forIn_cons, List.forIn_nil]
  refine wpAny_bind (wpAny_bind (wpAny_onRaise ?_)); show wpAny _ _ (Builtin.SmallTypes.nextOf (Value.ref i1) >>= _) _ _ _
  cases hx : xs[n]? with
  | none =>
    refine wpAny_bind (nextK_end hh (Za.mv fun o e => s1.extBut _ _ D.i1z e) (hl1.mv fun o e => s1.extBut _ _ D.l1z e) hx fun g2 e s2 ⟨oe, he, ce⟩ => ?_)
    have z2 : IsZip g2 z TI TO .ellipsis := s2 _ _ D.i1z.symm z1
    have ne : e ≠ z := fun x => by subst x; rw [z2] at he; cases he; simp at ce
    refine wpAny_setField_rec z2 (by simp) fun g3 _ s3 => ?_
    exact wpAny_bind (wpAny_isInstance (T := "StopIteration") (b := true) ⟨oe, s3.extBut _ _ ne he, ce⟩ isSubtype_stop (wpAny_pure (q g3 fun c o n1 _ n3 _ x => s3.extBut _ _ n1 (s2 _ _ n3 (s1.extBut _ _ n1 x)))))
  | some x =>
    have hy : ys[n]? = none := by rcases hend with h | h; rw [hx] at h; cases h; exact h
    refine wpAny_bind (nextK_item (Za.mv fun o e => s1.extBut _ _ D.i1z e) (hl1.mv fun o e => s1.extBut _ _ D.l1z e) hx fun g2 a2 s2 => wpAny_pure ?_)
    have o2 : IsPair g2 TO a b := s2.extBut _ _ D.TOi1 (s1.extBut _ _ D.TOz Zo)
    refine wpAny_bind (wpAny_seqItems o2 rfl ?_)
    refine wpAny_bind (wpAny_updateSeq_pair o2 fun g3 o3 s3 => ?_)
    refine wpAny_bind (wpAny_letGo (wpAny_pure ?_))
    refine wpAny_bind (wpAny_bind (wpAny_onRaise ?_)); show wpAny _ _ (Builtin.SmallTypes.nextOf (Value.ref i2) >>= _) _ _ _
    refine wpAny_bind (nextK_end hh (Zb.mv fun o e => s3.extBut _ _ D.TOi2.symm (s2.extBut _ _ D.i12.symm (s1.extBut _ _ D.i2z e))) (hl2.mv fun o e => s3.extBut _ _ D.l2TO (s2.extBut _ _ D.l2i1 (s1.extBut _ _ D.l2z e))) hy fun g4 e s4 ⟨oe, he, ce⟩ => ?_)
    have z4 : IsZip g4 z TI TO .ellipsis := s4 _ _ D.i2z.symm (s3.extBut _ _ D.TOz.symm (s2.extBut _ _ D.i1z.symm z1))
    have ne : e ≠ z := fun x => by subst x; rw [z4] at he; cases he; simp at ce
    refine wpAny_setField_rec z4 (by simp) fun g5 _ s5 => ?_
    exact wpAny_bind (wpAny_isInstance (T := "StopIteration") (b := true) ⟨oe, s5.extBut _ _ ne he, ce⟩ isSubtype_stop (wpAny_pure (q g5 fun c o n1 n2 n3 n4 x => s5.extBut _ _ n1 (s4 _ _ n4 (s3.extBut _ _ n2 (s2.extBut _ _ n3 (s1.extBut _ _ n1 x)))))))
def itO (kd : Bool) (l : Addr) : Obj := match kd with
  | true => { cls := .type "list_iterator", data := .fields #[.ref l, .int 0 0] }
  | false => { cls := .type "tuple_iterator", data := .fields #[.ref l, .int 0 0] }
theorem iterK {kd : Bool} {l : Addr} {xs : Array Value} {Q : Value → Shared → Prop} (h : SeK kd s.heap l xs) (q : Q (.ref s.heap.objs.size) { s with heap := s.heap.push (itO kd l) }) : wpAny (model prog w) A (pyIter (.ref l)) Q E s := by
  cases kd with
  | true => exact wpAny_pyIter_list h q
  | false => exact wpAny_pyIter_tuple h q
theorem itK_of {kd : Bool} {h : Heap} {i l : Addr} (e : h.get? i = some (itO kd l)) : ItK kd h i l 0 := by
  cases kd with
  | true => exact ⟨_, e, rfl, rfl⟩
  | false => exact ⟨_, e, rfl, rfl⟩
end
abbrev zK1 (k1 : Bool) (h : Heap) (l1 : Addr) : Heap := h.push (itO k1 l1)
abbrev zK2 (k1 k2 : Bool) (h : Heap) (l1 l2 : Addr) : Heap := (zK1 k1 h l1).push (itO k2 l2)
abbrev zK3 (k1 k2 : Bool) (h : Heap) (l1 l2 : Addr) : Heap := (zK2 k1 k2 h l1 l2).push { cls := .type "tuple", data := .seq #[.ref h.objs.size, .ref (zK1 k1 h l1).objs.size] }
abbrev zK4 (k1 k2 : Bool) (h : Heap) (l1 l2 : Addr) : Heap := (zK3 k1 k2 h l1 l2).push { cls := .type "tuple", data := .seq #[.none, .none] }
abbrev zK5 (k1 k2 : Bool) (h : Heap) (l1 l2 : Addr) : Heap := (zK4 k1 k2 h l1 l2).push { cls := .type "zip", data := .fields #[.none, .bool false, .bool false, .ref (zK2 k1 k2 h l1 l2).objs.size, .ref (zK3 k1 k2 h l1 l2).objs.size] }
theorem zipK_new (k1 k2 : Bool) (l1 l2 : Addr) (xs ys : Array Value) :
    Meets (Builtin.«zip.__new__» ⟨[.type "zip", .ref l1, .ref l2], []⟩) (fun _ R s => SeK k1 s.heap l1 xs ∧ SeK k2 s.heap l2 ys ∧ R (.ok (.ret (.ref (zK4 k1 k2 s.heap l1 l2).objs.size))) { s with heap := zK5 k1 k2 s.heap l1 l2 }) :=
  .of_wp fun prog w A R s h => by
    obtain ⟨hp, g, d, tk, os⟩ := s; obtain ⟨a1, a2, h⟩ := h
    have hsub := sub_zip
    have b1 : SeK k1 (Shared.heap ⟨hp, g, d, tk, os⟩) l1 xs := a1
    have b2 : SeK k2 (Shared.heap ⟨hp.push (itO k1 l1), g, d, tk, os⟩) l2 ys := a2.mv fun o e => Heap.get?_push_of_some _ e
    wp_walk using iterK b1, iterK b2
    exact ⟨_, rfl, h⟩
section
variable {prog : Program} {w : World} {A : Around} {E : Value → Shared → Prop} {s : Shared}
theorem call_zipK {k1 k2 : Bool} {l1 l2 : Addr} {xs ys : Array Value} {Q : Value → Shared → Prop} (h1 : SeK k1 s.heap l1 xs) (h2 : SeK k2 s.heap l2 ys)
    (q : ∀ g, ZAt k1 k2 (s.heap.objs.size + 4) (s.heap.objs.size + 2) (s.heap.objs.size + 3) s.heap.objs.size (s.heap.objs.size + 1) l1 l2 0 g → (∀ c o, s.heap.get? c = some o → g.get? c = some o) → Q (.ref (s.heap.objs.size + 4)) { s with heap := g }) :
    wpAny (model prog w) A (call (.type "zip") [.ref l1, .ref l2]) Q E s := by
  refine callType_new F.called_zip (by decide) (F.typeCall_zip_2 _ _) (F.newCall_zip_2 _ _) (fun obj => F.args_object_init_3 obj _ _) F.entry_zip_new (zipK_new k1 k2 l1 l2 xs ys) ⟨h1, h2, ?_⟩
  have m1 : (zK1 k1 s.heap l1).objs.size = s.heap.objs.size + 1 := Heap.size_push ..
  have m2 : (zK2 k1 k2 s.heap l1 l2).objs.size = s.heap.objs.size + 2 := by rw [Heap.size_push, m1]
  have m3 : (zK3 k1 k2 s.heap l1 l2).objs.size = s.heap.objs.size + 3 := by rw [Heap.size_push, m2]
  have m4 : (zK4 k1 k2 s.heap l1 l2).objs.size = s.heap.objs.size + 4 := by rw [Heap.size_push, m3]
  have fz : ∀ l, (itO k1 l).isFreed = false := fun l => by cases k1 <;> rfl
  have fz2 : ∀ l, (itO k2 l).isFreed = false := fun l => by cases k2 <;> rfl
  have g5 : (zK5 k1 k2 s.heap l1 l2).get? (zK4 k1 k2 s.heap l1 l2).objs.size = some _ := Heap.get?_push_size _ rfl
  have g4 : (zK5 k1 k2 s.heap l1 l2).get? (zK3 k1 k2 s.heap l1 l2).objs.size = some _ := Heap.get?_push_of_some _ (Heap.get?_push_size _ rfl)
  have g3 : (zK5 k1 k2 s.heap l1 l2).get? (zK2 k1 k2 s.heap l1 l2).objs.size = some _ := Heap.get?_push_of_some _ (Heap.get?_push_of_some _ (Heap.get?_push_size _ rfl))
  have g2 : (zK5 k1 k2 s.heap l1 l2).get? (zK1 k1 s.heap l1).objs.size = some (itO k2 l2) := Heap.get?_push_of_some _ (Heap.get?_push_of_some _ (Heap.get?_push_of_some _ (Heap.get?_push_size _ (fz2 _))))
  have g1 : (zK5 k1 k2 s.heap l1 l2).get? s.heap.objs.size = some (itO k1 l1) := Heap.get?_push_of_some _ (Heap.get?_push_of_some _ (Heap.get?_push_of_some _ (Heap.get?_push_of_some _ (Heap.get?_push_size _ (fz _)))))
  show _ ∧ _
  rw [m2, m3, m4] at g5
  rw [m1, m2] at g3
  rw [m3] at g4
  rw [m1] at g2
  rw [m4]
  exact ⟨⟨_, g5, rfl⟩, q _ ⟨g5, g3, ⟨_, _, g4⟩, itK_of g1, itK_of g2⟩ fun c o x => Heap.get?_push_of_some _ (Heap.get?_push_of_some _ (Heap.get?_push_of_some _ (Heap.get?_push_of_some _ (Heap.get?_push_of_some _ x))))⟩
end
section
variable {X : Cx}
theorem inv_moved {pins : List (Addr × Obj)} {σ : L2.St} {H : Hp} {s : Shared} {h' : Heap} {t' : Nat} {fp : List Addr} (I : Inv X pins σ H s) (k : ∀ b o, b ∉ fp → s.heap.get? b = some o → h'.get? b = some o) (hf : ∀ b ∈ fp, FpOk X pins H b) :
    Inv X pins σ H { s with heap := h', toks := t' } := by
  have nit : ∀ b u, H b = some u → b ∉ fp := fun b u e z => by rw [(hf b z).1] at e; cases e
  refine I.step (g' := s.gens) (d' := s.drawn) (ch := fp) (fun b hb => ?_) (fun b o _ _ hc e _ => k b o hc e) (fun b o _ _ hc e _ => ⟨o.slots, k b o hc e⟩) (fun _ _ _ _ n => n) (fun b o hc e => ⟨o, k b o hc e⟩) (fun _ _ e => e) (fun _ _ _ e => e)
    (fun b ps e => ⟨#[], by rw [e]; simp⟩) (fun m hm => ?_) (fun b u e => ?_) I.bare
  · obtain ⟨_, f1, f2, f3, f4, f5⟩ := hf b hb
    exact ⟨f3, f1, f4, f5⟩
  · obtain ⟨o, es, ep, ho, r⟩ := hm
    exact ⟨o, es, ep, k _ o (fun z => (hf _ z).2.1 rfl) ho, r⟩
  · refine (I.hok b u e).stay (fun c v hc q => k c v ?_ q) (fun _ q => q) fun _ _ q => q
    rcases hc with z | z
    · rw [z]; exact nit b u e
    · exact nit c _ z
theorem inv_zipped {pins : List (Addr × Obj)} {σ : L2.St} {H : Hp} {s : Shared} {h' : Heap} {t' : Nat} {fp : List Addr} {a : Addr} {o : HO} (I : Inv X pins σ H s) (k : ∀ b o, b ∉ fp → s.heap.get? b = some o → h'.get? b = some o) (hf : ∀ b ∈ fp, FpOk X pins H b)
    (hp : s.heap.objs.size ≤ a) (new : ObjOk X.prog X.w (upd H a o) h' a o) : Inv X pins σ (upd H a o) { s with heap := h', toks := t' } := by
  have hn := I.hok.fresh hp
  have nit : ∀ b u, H b = some u → b ∉ fp := fun b u e z => by rw [(hf b z).1] at e; cases e
  have old : ∀ b u, H b = some u → upd H a o b = some u := fun b u e => by rw [upd_ne (ne_of_none e hn)]; exact e
  refine I.step (g' := s.gens) (d' := s.drawn) (ch := fp) (fun b hb => ?_) (fun b o _ _ hc e _ => k b o hc e) (fun b o _ _ hc e _ => ⟨o.slots, k b o hc e⟩) (fun b u _ e n => ?_) (fun b o hc e => ⟨o, k b o hc e⟩) (fun b xs e => old b _ e) (fun b ob u e => old b _ e)
    (fun b ps e => ⟨#[], by rw [old b _ e]; simp⟩) (fun m hm => ?_) (fun b u e => ?_) I.bare
  · obtain ⟨_, f1, f2, f3, f4, f5⟩ := hf b hb
    exact ⟨f3, f1, f4, f5⟩
  · rw [upd_ne (Nat.ne_of_lt (Nat.lt_of_lt_of_le (Heap.lt_size e) hp))]
    exact n
  · obtain ⟨o, es, ep, ho, r⟩ := hm
    exact ⟨o, es, ep, k _ o (fun z => (hf _ z).2.1 rfl) ho, r⟩
  · by_cases hb : b = a
    · subst hb; rw [upd_same] at e; cases e; exact new
    · rw [upd_ne hb] at e
      refine (I.hok b u e).stay (fun c v hc q => k c v ?_ q) (fun c q => old c _ q) fun c xs q => old c _ q
      rcases hc with z | z
      · rw [z]; exact nit b u e
      · exact nit c _ z
theorem sq_val {kd : Bool} {pins : List (Addr × Obj)} {σ : L2.St} {H : Hp} {s : Shared} {a : Addr} {xs : List V} (I : Inv X pins σ H s) (h : SqK kd X.K H a xs) : ∃ its : List Value, Vals xs its ∧ SeK kd s.heap a its.toArray := by
  cases kd with
  | true => obtain ⟨its, r, p, _⟩ := I.list h; exact ⟨its, r, p.isList⟩
  | false => obtain ⟨its, r, p, _⟩ := I.tuple h; exact ⟨its, r, p⟩
theorem sq_inj {kd : Bool} {pins : List (Addr × Obj)} {σ : L2.St} {H : Hp} {s : Shared} {a : Addr} {xs ys : List V} (I : Inv X pins σ H s) (h : SqK kd X.K H a xs) (h' : SqK kd X.K H a ys) : xs = ys := by
  cases kd with
  | true => exact I.list_inj h h'
  | false => exact I.tuple_inj h h'
def Itz (k1 k2 : Bool) (K : PySem.W.Frag) (a b : Addr) : It :=
  ⟨fun i H => ∃ xs ys x y, SqK k1 K H a xs ∧ SqK k2 K H b ys ∧ xs[i]? = some x ∧ ys[i]? = some y,
   fun i H v H' => ∃ t x y, v = .ref t ∧ H t = none ∧ H' = upd H t (.tup [x, y]) ∧ (∀ xs, SqK k1 K H a xs → xs[i]? = some x) ∧ ∀ ys, SqK k2 K H b ys → ys[i]? = some y,
   fun i H => ∃ xs ys, SqK k1 K H a xs ∧ SqK k2 K H b ys ∧ (xs.length ≤ i ∨ ys.length ≤ i)⟩
theorem apart_new {n l1 l2 : Nat} (h1 : l1 < n) (h2 : l2 < n) : ZipApart (n + 4) (n + 2) (n + 3) n (n + 1) l1 l2 := by
  constructor <;> (show @Ne Nat _ _) <;> omega
theorem turn_zip {P : Program} {w : World} {K : PySem.W.Frag} {es : List Expr} {x1} {pos : Pos} {k1 k2 : Bool} {z TI TO i1 i2 a b : Addr} (D : ZipApart z TI TO i1 i2 a b) :
    Turn P w K (.Tuple es x1 pos) (Itz k1 k2 K a b) [z, TI, TO, i1, i2] z (ZAt k1 k2 z TI TO i1 i2 a b) where
  mem := by simp
  obj := fun i h Z c hc => by
    have hc : c = z ∨ c = TI ∨ c = TO ∨ c = i1 ∨ c = i2 := by simpa using hc
    rcases hc with rfl | rfl | rfl | rfl | rfl
    · exact ⟨_, Z.z, fun v e => by cases e⟩
    · exact ⟨_, Z.ti, fun v e => by cases e⟩
    · obtain ⟨u, v, e⟩ := Z.to
      exact ⟨_, e, fun v e => by cases e⟩
    · exact Z.a.ob
    · exact Z.b.ob
  keep := fun i h h' Z k => by
    obtain ⟨u, v, e⟩ := Z.to
    exact ⟨k z (by simp) _ Z.z, k TI (by simp) _ Z.ti, ⟨u, v, k TO (by simp) _ e⟩, Z.a.mv fun o q => k i1 (by simp) o q, Z.b.mv fun o q => k i2 (by simp) o q⟩
  item := by
    intro X hP hw hK hc i pins s σ H E I hf Z hg
    subst hP hw hK
    obtain ⟨xs, ys, x, y, q1, q2, e1, e2⟩ := hg
    obtain ⟨us, r1, p1⟩ := sq_val I q1
    obtain ⟨vs, r2, p2⟩ := sq_val I q2
    obtain ⟨u, hu, ru⟩ := r1.get e1
    obtain ⟨v, hv, rv⟩ := r2.get e2
    have F := fun c (m : c ∈ [z, TI, TO, i1, i2]) => hf c m
    have hfr : H s.heap.objs.size = none := I.hok.fresh (Nat.le_refl _)
    refine zipK_item D Z p1 p2 (x := u) (y := v) (by simpa using hu) (by simpa using hv) fun g a1 a2 a3 a4 a5 kp => ⟨_, rfl, ?_⟩
    have zlt : z < s.heap.objs.size := Heap.lt_size Z.z
    have tlt : TO < s.heap.objs.size := by obtain ⟨_, _, e⟩ := Z.to; exact Heap.lt_size e
    have ilt : i1 < s.heap.objs.size := by obtain ⟨_, e, _⟩ := Z.a.ob; exact Heap.lt_size e
    have jlt : i2 < s.heap.objs.size := by obtain ⟨_, e, _⟩ := Z.b.ob; exact Heap.lt_size e
    refine wpAny_letOwnedTupleGo_zip (s := { s with heap := g }) a1 fun g' z' s' => ?_
    have kp' : ∀ c o, c ≠ z → c ≠ TO → c ≠ i1 → c ≠ i2 → s.heap.get? c = some o → g'.get? c = some o := fun c o n1 n2 n3 n4 e => s'.extBut _ _ n1 (kp c o n1 n2 n3 n4 e)
    have a5' : IsPair g' s.heap.objs.size u v := s'.extBut _ _ (Nat.ne_of_gt zlt) a5
    have I1 : Inv X pins σ (upd H s.heap.objs.size (.tup [x, y])) { s with heap := g' } := by
      refine inv_zipped I (fp := [z, TO, i1, i2]) (fun c o hc e => kp' c o (fun x => hc (by simp [x])) (fun x => hc (by simp [x])) (fun x => hc (by simp [x])) (fun x => hc (by simp [x])) e) ?_ (Nat.le_refl _) ?_
      · intro c hc
        exact hf c (by simp at hc ⊢; rcases hc with h | h | h | h <;> simp [h])
      · exact ⟨by show 2 ≤ sizeLine; decide, [u, v], .cons ru (.cons rv .nil), ⟨_, a5', rfl, _, rfl⟩⟩
    refine ⟨.ref s.heap.objs.size, _, I1, rfl, ⟨_, x, y, rfl, hfr, rfl, fun zs hz => by rw [sq_inj I hz q1]; exact e1, fun zs hz => by rw [sq_inj I hz q2]; exact e2⟩, ?_, ?_⟩
    · exact ⟨z', kp' _ _ D.TIz D.TITO D.TIi1 D.TIi2 Z.ti, ⟨_, _, s'.extBut _ _ D.TOz a2⟩, a3.mv fun o e => s'.extBut _ _ D.i1z e, a4.mv fun o e => s'.extBut _ _ D.i2z e⟩
    · intro c hc
      have hlt : c < s.heap.objs.size := by
        have hc : c = z ∨ c = TI ∨ c = TO ∨ c = i1 ∨ c = i2 := by simpa using hc
        rcases hc with rfl | rfl | rfl | rfl | rfl
        · exact zlt
        · exact Heap.lt_size Z.ti
        · exact tlt
        · exact ilt
        · exact jlt
      rw [upd_ne (Nat.ne_of_lt hlt)]
      exact (hf c hc).1
  done := by
    intro X hP hw hK hc i pins s σ H E I hf Z hg
    subst hP hw hK
    obtain ⟨xs, ys, q1, q2, e⟩ := hg
    obtain ⟨us, r1, p1⟩ := sq_val I q1
    obtain ⟨vs, r2, p2⟩ := sq_val I q2
    have l1 := r1.length
    have l2 := r2.length
    have he : us.toArray[i]? = none ∨ vs.toArray[i]? = none := by
      rcases e with e | e
      · left
        simp
        omega
      · right
        simp
        omega
    refine zipK_end (I.ok.hd hc) D Z p1 p2 he fun g kp => ⟨rfl, ?_⟩
    refine inv_moved I (fp := [z, TO, i1, i2]) (fun c o hc e => kp c o (fun x => hc (by simp [x])) (fun x => hc (by simp [x])) (fun x => hc (by simp [x])) (fun x => hc (by simp [x])) e) ?_
    intro c hc
    exact hf c (by simp at hc ⊢; rcases hc with h | h | h | h <;> simp [h])
  self := fun _ _ _ _ _ Z h => wpAny_pyIter_zip Z.z h
def iZip (k1 k2 : Bool) (K : PySem.W.Frag) (ta : TA) : TI := fun σ H R => ta σ H fun vs H1 => match vs with
  | [.ref a, .ref b] => (∃ xs, SqK k1 K H1 a xs) ∧ (∃ ys, SqK k2 K H1 b ys) ∧ R (Itz k1 k2 K a b) H1
  | _ => False
theorem pi_zip (k1 k2 : Bool) {a b : Expr} {ta : TA} {p pos : Pos} {es : List Expr} {x1} {tp : Pos} (hg : Gl X "zip") (hm : X.mg "zip" = none) (ha : PA X [a, b] ta) (hs : starEach [a, b] X.env = [(false, eval a X.env), (false, eval b X.env)] := by rfl)
    (hs2 : starEach [b] X.env = [(false, eval b X.env)] := by rfl) : PI X (.Tuple es x1 tp) (.Call (.Name "zip" p) [a, b] [] pos) (iZip k1 k2 X.K ta) := by
  intro pins s σ H R I h
  refine Call_ (ld_blt I hg hm boot_zip (PyProof.Rows.callWith_type1 (thn (ha pos pins s σ H _ I h) fun us s1 ⟨vs, H1, I1, r1, q1⟩ => ?_) (by rw [hs, hs2]) (by rw [hs2]; rfl)))
  match vs, q1 with
  | [.ref l1, .ref l2], ⟨⟨xs, hx⟩, ⟨ys, hy⟩, q⟩ =>
    obtain ⟨u, v, rfl, e1, e2⟩ := vals2 r1
    cases (show u = Value.ref l1 from e1)
    cases (show v = Value.ref l2 from e2)
    obtain ⟨us', _, p1⟩ := sq_val I1 hx
    obtain ⟨vs', _, p2⟩ := sq_val I1 hy
    have lt1 := p1.lt
    have lt2 := p2.lt
    refine call_zipK p1 p2 fun g Z kp => wpAny_pyIter_zip (s := { s1 with heap := g }) Z.z ?_
    have I2 : Inv X pins σ H1 { s1 with heap := g } := I1.kept (t' := s1.toks) kp
    refine ⟨_, [s1.heap.objs.size + 4, s1.heap.objs.size + 2, s1.heap.objs.size + 3, s1.heap.objs.size, s1.heap.objs.size + 1], _, _, H1, rfl, I2, turn_zip (apart_new lt1 lt2), Z, fun c hc => ?_, q⟩
    have hc : @LE.le Nat _ s1.heap.objs.size c := by
      have hc : c = s1.heap.objs.size + 4 ∨ c = s1.heap.objs.size + 2 ∨ c = s1.heap.objs.size + 3 ∨ c = s1.heap.objs.size ∨ c = s1.heap.objs.size + 1 := by simpa using hc
      rcases hc with h | h | h | h | h <;> rw [h] <;> first | exact Nat.le_refl _ | exact Nat.le_add_right _ _
    exact I1.fpOk hc (I1.hok.fresh hc)
end
section
variable {X : Cx}
def dCatL : R2 := fun x y H Q => match x, y with
  | .ref l, .ref b => ∃ xs zs, H l = some (.lst xs) ∧ H b = some (.lst zs) ∧ xs.length + zs.length ≤ 1000 ∧ ∀ p H', Same H H' → H' p = some (.lst (xs ++ zs)) → Q (.ref p) H'
  | _, _ => False
theorem o_catL : OpR X (binaryOp .Add) dCatL := by
  intro pins s σ H x y v u Q I rx ry q
  cases x <;> cases y <;> first
    | exact False.elim q
    | (obtain ⟨xs, zs, h1, h2, h3, q⟩ := q
       exact op_cat _ _ _ _ _ _ _ _ _ I rx ry ⟨_, _, xs, zs, rfl, rfl, h1, h2, Nat.le_trans h3 (by decide), fun p hp => q p _ (same_upd hp) upd_same⟩)
def dSlL (K : PySem.W.Frag) : V → Option Int → Option Int → Hp → VK → Prop := fun x lo hi H Q => match x with
  | .ref a => ∃ xs, SqL K H a xs ∧ ∀ p H', Same H H' → H' p = some (.lst (cutV xs lo hi)) → Q (.ref p) H'
  | _ => False
theorem sl_lst : SlR X (dSlL X.K) := by
  intro pins s σ H x v vl vu lo hi sl Q I rx hs pl pu h
  cases x <;> first
    | exact False.elim h
    | (obtain ⟨xs, h1, q⟩ := h
       exact sl_list _ _ _ _ _ _ _ _ _ _ _ _ I rx hs pl pu ⟨_, xs, rfl, h1, fun p hp => q p _ (same_upd hp) upd_same⟩)
end
end Lw
end
section
set_option Elab.async false
set_option linter.all false
set_option maxRecDepth 100000
set_option maxHeartbeats 4000000
namespace Lw
open PySem PySem.Spec PyProof.Rows L2
section
variable {X : Cx} {pos : Pos}
end
end Lw
end
section
set_option Elab.async false
set_option linter.all false
set_option maxRecDepth 100000
set_option maxHeartbeats 4000000
namespace Lw
open PySem PySem.Spec PyProof.Rows L2
section
variable {prog : Program} {w : World} {A : Around} {R : Result → Shared → Prop} {s : Shared}
theorem turn_eq (elt tg iter : Expr) (scope : Scope) (pos : Pos) (it acc : Value) (env : Env) :
    compTurn (.ListComp elt [⟨tg, iter, [], 0⟩] scope pos) 0 it acc env = (standAt iter.pos >>= fun _ => pyNext it >>= fun r => match r with
      | none => pure (.done .next)
      | some v => letOwnedTupleGo tg it v >>= fun _ => assign tg env v >>= fun _ => (eval elt env >>= fun x => call (.builtin "list.append") [acc, x] >>= fun _ => pure ()) >>= fun _ => again (.compLoop (.ListComp elt [⟨tg, iter, [], 0⟩] scope pos) 0 it acc env)) := rfl
theorem loop_comp {elt tg iter : Expr} {scope : Scope} {pos : Pos} {it acc : Value} {env : Env} (I : Nat → Shared → Prop)
    (turn : ∀ n s, I n s → wpAny (model prog w) A (pyNext it) (fun r s1 => (r = none ∧ R (.ok .next) s1) ∨ ∃ v, r = some v ∧ wpAny (model prog w) A (letOwnedTupleGo tg it v) (fun _ s2 => wpAny (model prog w) A (assign tg env v) (fun _ s3 =>
      wpAny (model prog w) A (eval elt env) (fun x s4 => wpAny (model prog w) A (call (.builtin "list.append") [acc, x]) (fun _ s5 => ∃ m, m < n ∧ I m s5) (fun _ _ => False) s4) (fun _ _ => False) s3) (fun _ _ => False) s2) (fun _ _ => False) s1) (fun _ _ => False) s)
    (n : Nat) (h : I n s) : codeAny (model prog w) A (.compLoop (.ListComp elt [⟨tg, iter, [], 0⟩] scope pos) 0 it acc env) R s := by
  refine codeAny_loop rfl I (fun n s hI => ?_) n h
  show wpAny _ _ ((compTurn (.ListComp elt [⟨tg, iter, [], 0⟩] scope pos) 0 it acc env).onRaise (fun x => do noteFrame x env; theTreesLotGoes x)) _ _ s
  refine wpAny_noted ?_
  rw [turn_eq]
  refine wpAny_bind (wpAny_standAt (wpAny_bind (wpAny_mono (turn n s hI) (fun r s1 h1 => ?_) fun _ _ z => z.elim)))
  rcases h1 with ⟨rfl, h1⟩ | ⟨v, rfl, h1⟩
  · exact wpAny_pure h1
  · refine wpAny_bind (wpAny_mono h1 (fun _ s2 h2 => ?_) fun _ _ z => z.elim)
    refine wpAny_bind (wpAny_mono h2 (fun _ s3 h3 => ?_) fun _ _ z => z.elim)
    refine wpAny_bind (wpAny_bind (wpAny_mono h3 (fun x s4 h4 => ?_) fun _ _ z => z.elim))
    refine wpAny_bind (wpAny_mono h4 (fun _ s5 h5 => ?_) fun _ _ z => z.elim)
    exact wpAny_pure (wpAny_pure ⟨rfl, h5⟩)
end
abbrev cxC (X : Cx) (N : List Str) (s₀ : Shared) (H₀ : Hp) (env : Env) (fp : List Addr) : Cx :=
  { X with N := N, s₀ := s₀, H₀ := H₀, env := env, outer := X.stack, ex := fp, fn := fun _ => false, pn := [], xe := fun _ _ => False }
structure Cap (X : Cx) (sc : Scope) (cl : List (Str × Addr)) (j : Nat) (y : Str) : Prop where
  nm : X.N[j]? = some y
  ko : X.env.kindOf y = some .cell
  ki : sc.names.lookup y = some .cell
  cl : cl.lookup y = X.env.cells.lookup y
def capσ (js : List Nat) (σ : L2.St) : L2.St := js.map fun j => (σ[j]?).join
@[irreducible] def CGoal (J : It) (g : TG) (te : TE) (k : Nat) (js : List Nat) (σ : L2.St) (H1 : Hp) (Q : VK) : Prop := ∀ D, H1 D = none → ∃ W : Nat → Nat → Hp → Prop, (∃ m, W 0 m (upd H1 D (.lst []))) ∧ ∀ i m H, W i m H →
  (J.stop i H ∧ Q (.ref D) H) ∨ (J.go i H ∧ ∀ x H', J.yld i H x H' → g x (List.replicate k none ++ capσ js σ) H' fun σ2 H2 => σ2.drop k = capσ js σ ∧ te σ2 H2 fun v H3 => ∃ xs, H3 D = some (.lst xs) ∧ xs.length < sizeLine ∧ ∃ m', m' < m ∧ W (i + 1) m' (upd H3 D (.lst (xs ++ [v]))))
def dComp (wi : TI) (g : TG) (te : TE) (k : Nat) (js : List Nat) : TE := fun σ H Q => wi σ H fun J H1 => CGoal J g te k js σ H1 Q
section
variable {X : Cx}
theorem comp_ok {pins : List (Addr × Obj)} {σ : L2.St} {H : Hp} {s : Shared} {N : List Str} {scope : Scope} {cl : List (Str × Addr)} {C : Addr} {fp : List Addr} (I : Inv X pins σ H s) (hk : scope.kind = .function) (hC : s.heap.objs.size ≤ C)
    (hcl : ∀ y c, cl.lookup y = some c → X.env.cells.lookup y = some c) (hhas : ∀ y, ((relabel scope X.env).names.lookup y = some .cell ∨ (relabel scope X.env).names.lookup y = some .free) → ∃ c, cl.lookup y = some c)
    (hf : ∀ b ∈ fp, FpOk X pins H b ∧ b < s.heap.objs.size) : (cxC X N s H (compEnvC scope cl C X.env) fp).Ok where
  mod := I.ok.mod
  kind := hk
  glob := I.ok.glob
  blt := I.ok.blt
  above := hC
  inj := fun x y c e1 e2 => I.ok.inj x y c (hcl x c e1) (hcl y c e2)
  has := fun x h => hhas x h
  cab := fun x c z => absurd z (by simp)
  hd := I.ok.hd
  frames := I.ok.frames
  stk := .inl rfl
  exf := fun b hb => ⟨Nat.ne_of_lt (Nat.lt_of_lt_of_le (hf b hb).2 hC), fun x c e => (hf b hb).1.2.2.2.2.1 x c (hcl x c e)⟩
  bs := I.bs
  bsz := Nat.le_trans I.ok.bsz I.sz
  noex := fun b o e hb => by
    rcases (hf b hb).1.2.2.2.1 with z | z
    · exact I.ok.noex b o e z
    · exact absurd (Nat.lt_of_lt_of_le (Heap.lt_size (I.ok.bs b o e).1) z) (Nat.lt_irrefl _)
  exfs := fun b hb hm => by
    rcases List.mem_cons.mp (I.stkSub b hm) with z | z
    · exact (hf b hb).1.2.1 z
    · exact (hf b hb).1.2.2.1 z
  funs := I.stack
  frf := I.stkFree
theorem comp_core {elt iter tg : Expr} {scope : Scope} {pos : Pos} {wi : TI} {te : TE} {g : TG} {N : List Str} {cl : List (Str × Addr)} (k : Nat) (js : List Nat) (hi : PI X tg iter wi)
    (hg : ∀ C s H fp, PG (cxC X N s H (compEnvC scope cl C X.env) fp) tg g) (he : ∀ C s H fp, PE (cxC X N s H (compEnvC scope cl C X.env) fp) elt te) (hcalm : X.calm = true)
    (hclos : closureFor scope X.env = pure cl) (hkind : scope.kind = .function) (hcell : ∀ y ∈ scope.names, y.2 ≠ .cell) (hnames : ∀ y ∈ scope.names, y.2 = .local → scope.names.lookup y.1 = some .local)
    (hcl : ∀ y c, cl.lookup y = some c → X.env.cells.lookup y = some c) (hhas : ∀ y, ((relabel scope X.env).names.lookup y = some .cell ∨ (relabel scope X.env).names.lookup y = some .free) → ∃ c, cl.lookup y = some c)
    (hlen : N.length = k + js.length) (hcap : ∀ i j, js[i]? = some j → ∃ y, N[k + i]? = some y ∧ Cap X (relabel scope X.env) cl j y)
    (hs : ∀ x, foldedSetIterable iter X.env x = pure x) {pins : List (Addr × Obj)} {s : Shared} {σ : L2.St} {H : Hp} {Q : VK} (I : Inv X pins σ H s) (h : dComp wi g te k js σ H Q) {cpos : Pos} {use : Option (Value → Sem Unit)} {Qv : Value → Shared → Prop}
    (fin : ∀ (s6 : Shared) (H5 : Hp) (D C : Addr) (m : Str → Option Value), Inv X pins σ H5 s6 → s6.heap.Ns C m → H5 C = none → X.s₀.heap.objs.size ≤ C → C ≠ X.env.locals → (∀ x c, X.env.cells.lookup x = some c → c ≠ C) → (∀ p ∈ X.pn ++ pins, p.1 ≠ C) → Q (.ref D) H5 →
      compPost (model X.prog X.w) X.A X.xe use Qv (.ref D) C (.ok .next) s6) :
    wpAny (model X.prog X.w) X.A (comprehension (.ListComp elt [⟨tg, iter, [], 0⟩] scope pos) scope X.env cpos (newList []) false (eval iter X.env) use) Qv X.xe s := by
  refine wpAny_comprehension_free (use := use) rfl hs hclos hkind hnames (thn (hi pins s σ H _ I h) fun v s1 h1 => thn h1 fun itv s2 h2 => ?_)
  obtain ⟨it, fp, tn, J, H2, rfl, I2, T, st2, f2, h2⟩ := h2
  refine wpAny_newObj_type ?_
  have hD : H2 s2.heap.objs.size = none := I2.hok.fresh (Nat.le_refl _)
  unfold CGoal at h2
  obtain ⟨W, ⟨m0, w0⟩, turn⟩ := h2 _ hD
  have I3 : Inv X pins σ (upd H2 s2.heap.objs.size (.lst [])) { s2 with heap := s2.heap.push { cls := .type "list", dict := none, data := .seq ([] : List Value).toArray } } :=
    I2.laid (t' := s2.toks) (fun b u e => Heap.get?_push_of_some _ e) (Nat.le_refl _) ⟨Nat.zero_le _, [], 0, .nil, Heap.get?_push_size _ rfl⟩
  have hlt : ∀ b ∈ fp, b < s2.heap.objs.size := fun b hb => by
    obtain ⟨o, e, _⟩ := T.obj _ _ st2 b hb
    exact Heap.lt_size e
  have f3 : ∀ b ∈ fp, FpOk X pins (upd H2 s2.heap.objs.size (.lst [])) b := fun b hb => ⟨by rw [upd_ne (Nat.ne_of_lt (hlt b hb))]; exact (f2 b hb).1, (f2 b hb).2⟩
  have st3 : tn 0 (s2.heap.push { cls := .type "list", dict := none, data := .seq ([] : List Value).toArray }) := T.keep _ _ _ st2 fun b hb o e => Heap.get?_push_of_some _ e
  have hlt3 : ∀ b ∈ fp, b < (s2.heap.push { cls := .type "list", dict := none, data := .seq ([] : List Value).toArray }).objs.size := fun b hb => Nat.lt_of_lt_of_le (hlt b hb) (by rw [Heap.size_push]; exact Nat.le_succ _)
  generalize hs3 : ({ s2 with heap := s2.heap.push { cls := .type "list", dict := none, data := .seq ([] : List Value).toArray } } : Shared) = s3 at I3
  have eh : s3.heap = s2.heap.push { cls := .type "list", dict := none, data := .seq ([] : List Value).toArray } := by rw [← hs3]
  rw [← eh] at st3 hlt3
  generalize hDD : s2.heap.objs.size = D at *
  generalize hH3 : upd H2 D (.lst []) = H3 at *
  clear hs3 eh
  refine wpAny_newFunctionEnv (s := s3) hcell (by intro y hy; simp at hy) (fun h4 n4 sb4 => ?_) hkind
  have Ok := comp_ok (N := N) (C := s3.heap.objs.size) I3 hkind (Nat.le_refl _) hcl hhas fun b hb => ⟨f3 b hb, hlt3 b hb⟩
  show codeAny _ _ (.compStart (.ListComp elt [⟨tg, iter, [], 0⟩] scope pos) 0 (.ref it) (.ref D) (compEnvC scope cl s3.heap.objs.size X.env)) _ _
  generalize hC : s3.heap.objs.size = C at *
  have old : ∀ b o, s3.heap.get? b = some o → h4.get? b = some o := fun b o e => sb4.extBut b o (by rw [← hC]; exact Nat.ne_of_lt (Heap.lt_size e)) (Heap.get?_push_of_some _ e)
  have fresh : H3 C = none := I3.hok.fresh (by rw [hC]; exact Nat.le_refl _)
  have hcapl : ∀ {i : Nat} {x : Str} {v : V}, N[i]? = some x → (List.replicate k none ++ capσ js σ)[i]? = some (some v) → ∃ u, L2.RelV v u ∧ Look (compEnvC scope cl C X.env) h4 (fun _ => none) x u := by
    intro i x v e1 e2
    by_cases hik : i < k
    · rw [List.getElem?_append_left (by simpa using hik)] at e2
      rw [List.getElem?_replicate] at e2
      simp [hik] at e2
    · rw [List.getElem?_append_right (by simpa using Nat.le_of_not_lt hik), List.length_replicate] at e2
      unfold capσ at e2
      rw [List.getElem?_map] at e2
      cases ej : js[i - k]? with
      | none =>
        rw [ej] at e2
        cases e2
      | some j =>
        rw [ej] at e2
        have e2 : (σ[j]?).join = some v := Option.some.inj e2
        obtain ⟨y, hy, cp⟩ := hcap _ _ ej
        rw [show k + (i - k) = i by omega, e1] at hy
        cases hy
        obtain ⟨m, _, hl⟩ := I3.loc
        have e3 : σ[j]? = some (some v) := by
          cases q : σ[j]? with
          | none =>
            rw [q] at e2
            cases e2
          | some o =>
            rw [q] at e2
            have : o = some v := e2
            rw [this]
        obtain ⟨u, ru, lk⟩ := hl j x v cp.nm e3 (.inr (.inl cp.ko))
        refine ⟨u, ru, ?_⟩
        rcases lk with ⟨z, _⟩ | ⟨_, c, hc, z⟩
        · rw [cp.ko] at z
          cases z
        · refine .inr ⟨.inl cp.ki, c, by rw [← hc]; exact cp.cl, ?_⟩
          obtain ⟨o, e, d⟩ := z
          exact ⟨o, old _ _ e, d⟩
  have I4 : Inv (cxC X N s3 H3 (compEnvC scope cl C X.env) fp) [] (List.replicate k none ++ capσ js σ) H3 { s3 with heap := h4, toks := s3.toks + ([] : List (Str × Value)).length } := by
    refine ⟨Ok, rfl, I3.bare, Un.kept old, ⟨_, n4, fun i x v e1 e2 e3 => ?_⟩, fun x c e => ?_, fresh, fun x c e => I3.freeC x c (hcl x c e), fun p hp => absurd hp (by simp), I3.hok.kept old, ?_⟩
    · obtain ⟨u, ru, lk⟩ := hcapl e1 e2
      refine ⟨u, ru, ?_⟩
      rcases lk with ⟨z, q⟩ | q
      · cases q
      · exact .inr q
    · obtain ⟨v, o, e1, d⟩ := I3.cell x c (hcl x c e)
      exact ⟨v, o, old _ _ e1, d⟩
    · simp [capσ, hlen]
  have fp4 : ∀ {H' : Hp}, (∀ b ∈ fp, H' b = none) → ∀ b ∈ fp, FpOk (cxC X N s3 H3 (compEnvC scope cl C X.env) fp) [] H' b := fun hn b hb =>
    ⟨hn b hb, (Ok.exf b hb).1, Ok.exfs b hb, .inl hb, fun x c e => (Ok.exf b hb).2 x c e, fun p hp => absurd hp (by simp)⟩
  have st4 : tn 0 h4 := T.keep _ _ _ st3 fun b hb o e => old b o e
  have run : ∀ s4 : Shared, s4 = { s3 with heap := h4, toks := s3.toks + ([] : List (Str × Value)).length } →
      codeAny (model X.prog X.w) X.A (.compLoop (.ListComp elt [⟨tg, iter, [], 0⟩] scope pos) 0 (.ref it) (.ref D) (compEnvC scope cl C X.env)) (compPost (model X.prog X.w) X.A X.xe use Qv (.ref D) C) s4 := by
    rintro s4 rfl
    refine loop_comp (fun n s' => ∃ i H' σ', Inv (cxC X N s3 H3 (compEnvC scope cl C X.env) fp) [] σ' H' s' ∧ (∀ j : Nat, ∀ v, (List.replicate k none ++ capσ js σ)[j]? = some (some v) → σ'[j]? = some (some v)) ∧ tn i s'.heap ∧ (∀ b ∈ fp, H' b = none) ∧ W i n H') ?_ m0
      ⟨0, H3, _, I4, fun _ _ z => z, st4, fun b hb => (f3 b hb).1, w0⟩
    rintro n s5 ⟨i, H5, σ5, I5, cap5, st5, fr5, w5⟩
    have I5' := I5.weak (σ' := List.replicate k none ++ capσ js σ) (by rw [I5.len]; simp [capσ, hlen]) cap5
    rcases turn i n H5 w5 with ⟨stop, q⟩ | ⟨go, step⟩
    · refine thn (T.done (cxC X N s3 H3 (compEnvC scope cl C X.env) fp) rfl rfl rfl hcalm i [] s5 σ5 H5 _ I5 (fp4 fr5) st5 stop) fun r s6 ⟨hr, I6⟩ => .inl ⟨hr, ?_⟩
      obtain ⟨m6, n6, _⟩ := I6.loc
      have hCf : H5 C = none := I6.free
      have u6 := I6.base
      have uC : Un (frs X.stack) fp H3 H5 s3.heap s6.heap := ⟨u6.keep, u6.slot, u6.free, u6.there, u6.tups, u6.frzs, u6.tbls⟩
      have I7 : Inv X pins σ H5 s6 := I3.call' (s' := s6) I6.os uC I6.hok I6.bare fun b hb => ⟨(f3 b hb).2.2.2.1, (f3 b hb).2.1, (f3 b hb).2.2.2.2.1, (f3 b hb).2.2.2.2.2⟩
      have lt3 : ∀ b o, s3.heap.get? b = some o → b ≠ C := fun b o e => by rw [← hC]; exact Nat.ne_of_lt (Heap.lt_size e)
      refine fin s6 H5 D C m6 I7 n6 hCf (by rw [← hC]; exact I3.sz) (by rw [← hC]; exact Nat.ne_of_gt I3.lt) (fun x c e => ?_) (fun p hp => lt3 p.1 p.2 (I3.pin p hp).1) q
      obtain ⟨v, o, e1, _⟩ := I3.cell x c e
      exact lt3 c o e1
    · refine thn (T.item (cxC X N s3 H3 (compEnvC scope cl C X.env) fp) rfl rfl rfl hcalm i [] s5 _ H5 _ I5' (fp4 fr5) st5 go) fun r s6 ⟨u, hr, h6⟩ => .inr ⟨u, hr, ?_⟩
      refine thn h6 fun _ s7 ⟨x, H7, I7, r7, y7, st7, fr7⟩ => ?_
      have I7' := I7.pinned (fp4 fr7) (T.obj _ _ st7)
      refine thn (hg C s3 H3 fp _ s7 _ H7 x u _ I7' r7 (step x H7 y7)) fun _ s8 ⟨σ8, H8, I8, d8, q8⟩ => ?_
      refine thn (he C s3 H3 fp _ s8 σ8 H8 _ I8 q8) fun vv s9 ⟨vx, H9, I9, r9, xs, hx9, hz9, m', hm', w9⟩ => ?_
      obtain ⟨z9, its, n9, rl, e9⟩ := (show ObjOk X.prog X.w H9 s9.heap D (.lst xs) from I9.hok D _ hx9)
      have app := mt_append (X := cxC X N s3 H3 (compEnvC scope cl C X.env) fp) _ s9 σ8 H9 (.ref D) [vx] (.ref D) [vv] (fun _ H' => H' = upd H9 D (.lst (xs ++ [vx]))) I9 rfl (.cons r9 .nil) ⟨D, xs, vx, rfl, rfl, hx9, hz9, rfl⟩
      refine thn app fun _ s10 ⟨_, H10, I10, _, e10⟩ => ?_
      subst e10
      refine ⟨m', hm', i + 1, _, σ8, I10.unpinned (pins := []), ?_, T.keep _ _ _ st7 fun b hb o e => (I10.pin (b, o) (List.mem_append_right _ (List.mem_append_right _ (mem_pinsAt hb e)))).1, fun b hb => ?_, w9⟩
      · intro j v e
        by_cases hjk : j < k
        · rw [List.getElem?_append_left (by simpa using hjk), List.getElem?_replicate] at e
          simp [hjk] at e
        · rw [List.getElem?_append_right (by simpa using Nat.le_of_not_lt hjk), List.length_replicate, ← d8, List.getElem?_drop] at e
          rw [show k + (j - k) = j by omega] at e
          exact e
      · obtain ⟨o, e, d⟩ := T.obj _ _ st7 b hb
        exact (I10.pin (b, o) (List.mem_append_right _ (List.mem_append_right _ (mem_pinsAt hb e)))).2.1
  exact codeAny_compStart_list (run _ rfl) (T.self X.A 0 _ _ _ st4 (run _ rfl))
theorem e_comp {elt iter tg : Expr} {scope : Scope} {pos : Pos} {wi : TI} {te : TE} {g : TG} {N : List Str} {cl : List (Str × Addr)} (k : Nat) (js : List Nat) (hi : PI X tg iter wi)
    (hg : ∀ C s H fp, PG (cxC X N s H (compEnvC scope cl C X.env) fp) tg g) (he : ∀ C s H fp, PE (cxC X N s H (compEnvC scope cl C X.env) fp) elt te) (hcalm : X.calm = true)
    (hclos : closureFor scope X.env = pure cl) (hkind : scope.kind = .function) (hcell : ∀ y ∈ scope.names, y.2 ≠ .cell) (hnames : ∀ y ∈ scope.names, y.2 = .local → scope.names.lookup y.1 = some .local)
    (hcl : ∀ y c, cl.lookup y = some c → X.env.cells.lookup y = some c) (hhas : ∀ y, ((relabel scope X.env).names.lookup y = some .cell ∨ (relabel scope X.env).names.lookup y = some .free) → ∃ c, cl.lookup y = some c)
    (hlen : N.length = k + js.length) (hcap : ∀ i j, js[i]? = some j → ∃ y, N[k + i]? = some y ∧ Cap X (relabel scope X.env) cl j y)
    (hs : ∀ x, foldedSetIterable iter X.env x = pure x := by intro _; rfl) : PE X (.ListComp elt [⟨tg, iter, [], 0⟩] scope pos) (dComp wi g te k js) := by
  intro pins s σ H Q I h
  rw [eval_ListComp]
  refine comp_core k js hi hg he hcalm hclos hkind hcell hnames hcl hhas hlen hcap hs I h fun s6 H5 D C m I6 n6 z1 z2 z3 z4 z5 q => ⟨m, n6, fun h7 sb7 => ⟨.ref D, H5, ?_, rfl, q⟩⟩
  exact I6.turned (t' := s6.toks) (fun b o hb e => (sb7.2 b hb).trans e) z1 z3.symm.symm (.inr z2) z4 z5
def CapL (X : Cx) (sc : Scope) (cl : List (Str × Addr)) : List Str → List Nat → Prop
  | y :: ys, j :: js => Cap X sc cl j y ∧ CapL X sc cl ys js
  | [], [] => True
  | _, _ => False
theorem CapL.len {sc : Scope} {cl : List (Str × Addr)} : ∀ {ys : List Str} {js : List Nat}, CapL X sc cl ys js → ys.length = js.length
  | [], [], _ => rfl
  | _ :: _, _ :: _, h => congrArg (· + 1) (CapL.len h.2)
  | [], _ :: _, h => h.elim
  | _ :: _, [], h => h.elim
theorem CapL.at {sc : Scope} {cl : List (Str × Addr)} : ∀ {ys : List Str} {js : List Nat}, CapL X sc cl ys js → ∀ (i j : Nat), js[i]? = some j → ∃ y, ys[i]? = some y ∧ Cap X sc cl j y
  | [], [], _, i, j, e => by simp at e
  | y :: ys, j :: js, h, 0, j', e => by
    cases e
    exact ⟨y, rfl, h.1⟩
  | y :: ys, j :: js, h, i + 1, j', e => CapL.at h.2 i j' (by simpa using e)
  | [], _ :: _, h, _, _, _ => h.elim
  | _ :: _, [], h, _, _, _ => h.elim
def CellL (cells : List (Str × Addr)) : List (Str × Addr) → Prop
  | [] => True
  | (y, c) :: r => cells.lookup y = some c ∧ CellL cells r
theorem CellL.at {cells : List (Str × Addr)} : ∀ {cl : List (Str × Addr)}, CellL cells cl → ∀ y c, cl.lookup y = some c → cells.lookup y = some c
  | [], _, y, c, e => by simp at e
  | (z, d) :: r, h, y, c, e => by
    rw [List.lookup_cons] at e
    cases q : y == z with
    | true =>
      rw [q] at e
      cases e
      rw [eq_of_beq q]
      exact h.1
    | false =>
      rw [q] at e
      exact CellL.at h.2 y c e
theorem lookup_has {y : Str} : ∀ {cl : List (Str × Addr)}, (cl.map (·.1)).contains y = true → ∃ c, cl.lookup y = some c
  | [], h => by simp at h
  | (z, d) :: r, h => by
    rw [List.lookup_cons]
    cases q : y == z with
    | true => exact ⟨d, rfl⟩
    | false =>
      refine lookup_has (cl := r) ?_
      rw [List.map_cons, List.contains_cons, q, Bool.false_or] at h
      exact h
theorem relabel_has {env : Env} {y : Str} : ∀ {names : List (Str × NameKind)} {k : NameKind}, (names.map fun (n, k) => if (k == NameKind.free && env.scope.kind == .function && env.kindOf n == some .cell) then (n, NameKind.cell) else (n, k)).lookup y = some k →
    (k = .cell ∨ k = .free) → ∃ z ∈ names, z.1 = y ∧ (z.2 = .free ∨ z.2 = .cell)
  | [], _, h, _ => by simp at h
  | (n, kd) :: r, k, h, hk => by
    rw [List.map_cons] at h
    by_cases hc : (kd == NameKind.free && env.scope.kind == .function && env.kindOf n == some .cell) = true
    · rw [show (match (n, kd) with | (n, k) => if (k == NameKind.free && env.scope.kind == .function && env.kindOf n == some .cell) = true then (n, NameKind.cell) else (n, k)) = (n, NameKind.cell) from if_pos hc, List.lookup_cons] at h
      cases q : y == n with
      | true =>
        rw [Bool.and_eq_true, Bool.and_eq_true] at hc
        exact ⟨(n, kd), List.mem_cons_self, (eq_of_beq q).symm, .inl (eq_of_beq hc.1.1)⟩
      | false =>
        rw [q] at h
        obtain ⟨z, hz, r1⟩ := relabel_has (names := r) h hk
        exact ⟨z, List.mem_cons_of_mem _ hz, r1⟩
    · rw [show (match (n, kd) with | (n, k) => if (k == NameKind.free && env.scope.kind == .function && env.kindOf n == some .cell) = true then (n, NameKind.cell) else (n, k)) = (n, kd) from if_neg hc, List.lookup_cons] at h
      cases q : y == n with
      | true =>
        rw [q] at h
        cases h
        exact ⟨(n, kd), List.mem_cons_self, (eq_of_beq q).symm, hk.symm⟩
      | false =>
        rw [q] at h
        obtain ⟨z, hz, r1⟩ := relabel_has (names := r) h hk
        exact ⟨z, List.mem_cons_of_mem _ hz, r1⟩
theorem e_compN {elt iter tg : Expr} {scope : Scope} {pos : Pos} {wi : TI} {te : TE} {g : TG} {cl : List (Str × Addr)} (own ys : List Str) (js : List Nat) (hclos : closureFor scope X.env = pure cl) (hi : PI X tg iter wi)
    (hg : ∀ C s H fp, PG (cxC X (own ++ ys) s H (compEnvC scope cl C X.env) fp) tg g) (he : ∀ C s H fp, PE (cxC X (own ++ ys) s H (compEnvC scope cl C X.env) fp) elt te) (hcalm : X.calm = true) (hkind : scope.kind = .function)
    (hcell : (scope.names.all fun y => y.2 != .cell) = true) (hnames : (scope.names.all fun y => y.2 != .local || scope.names.lookup y.1 == some .local) = true) (hfr : (scope.names.all fun y => y.2 != .free || (cl.map (·.1)).contains y.1) = true)
    (hcl : CellL X.env.cells cl) (hcap : CapL X (relabel scope X.env) cl ys js) (hs : ∀ x, foldedSetIterable iter X.env x = pure x := by intro _; rfl) :
    PE X (.ListComp elt [⟨tg, iter, [], 0⟩] scope pos) (dComp wi g te own.length js) := by
  rw [List.all_eq_true] at hcell hnames hfr
  have hc : ∀ y ∈ scope.names, y.2 ≠ .cell := fun y hy z => by
    have := hcell y hy
    rw [z] at this
    cases this
  refine e_comp own.length js hi hg he hcalm hclos hkind hc (fun y hy z => ?_) hcl.at (fun y h => ?_) (by rw [List.length_append, hcap.len]) (fun i j e => ?_) hs
  · have := hnames y hy
    rw [z] at this
    simpa using this
  · obtain ⟨z, hz, rfl, hk⟩ : ∃ z ∈ scope.names, z.1 = y ∧ (z.2 = .free ∨ z.2 = .cell) := by
      rcases h with h | h
      · exact relabel_has h (.inl rfl)
      · exact relabel_has h (.inr rfl)
    rcases hk with hk | hk
    · have := hfr z hz
      rw [hk] at this
      exact lookup_has (by simpa using this)
    · exact absurd hk (hc z hz)
  · obtain ⟨y, h1, h2⟩ := hcap.at i j e
    exact ⟨y, by rw [List.getElem?_append_right (Nat.le_add_right _ _), Nat.add_sub_cancel_left]; exact h1, h2⟩
theorem comp_rng {lo : Int} {n : Nat} {g : TG} {te : TE} {k : Nat} {js : List Nat} {σ : L2.St} {H1 : Hp} {Q : VK} (f : Nat → V) (hz : n ≤ 1000)
    (hs : ∀ i H2, i < n → Same H1 H2 → ∀ P : VK, P (f i) H2 → g (.int (lo + i)) (List.replicate k none ++ capσ js σ) H2 fun σ2 H3 => σ2.drop k = capσ js σ ∧ te σ2 H3 P)
    (hq : ∀ D H', Same H1 H' → H' D = some (.lst ((List.range n).map f)) → Q (.ref D) H') :
    CGoal (Itr lo n) g te k js σ H1 Q := by
  unfold CGoal
  intro D hD
  refine ⟨fun i m H => m = n - i ∧ i ≤ n ∧ H = upd H1 D (.lst ((List.range i).map f)), ⟨n, by simp, Nat.zero_le _, rfl⟩, ?_⟩
  rintro i m H ⟨rfl, hi, rfl⟩
  by_cases hlt : i < n
  · refine .inr ⟨hlt, fun x H' y => ?_⟩
    obtain ⟨e1, e2⟩ := y
    subst e1 e2
    refine hs i _ hlt (same_upd hD) _ ⟨_, upd_same, ?_, n - (i + 1), by omega, rfl, hlt, ?_⟩
    · rw [List.length_map, List.length_range]
      exact Nat.lt_of_lt_of_le hlt (Nat.le_trans hz (by decide))
    · rw [upd_upd, List.range_succ, List.map_append]
      rfl
  · have e : i = n := by omega
    subst e
    exact .inl ⟨Nat.le_refl _, hq D _ (same_upd hD) upd_same⟩
end
end Lw
end
section
set_option Elab.async false
set_option linter.all false
set_option maxRecDepth 100000
set_option maxHeartbeats 4000000
namespace Lw
open PySem PySem.Spec PyProof.Rows L2
section
variable {X : Cx} {pos p2 p3 p4 : Pos} {e : Expr} {te : TE}
def dSlS : V → Option Int → Option Int → Hp → VK → Prop := fun x lo hi H Q => match x with
  | .str z => z.length ≤ sizeLine ∧ Q (.str (Txt.slice z lo hi)) H
  | _ => False
theorem sl_str : SlR X dSlS := by
  intro pins s σ H x v vl vu lo hi sl Q I rx hs pl pu h
  cases x <;> first
    | exact False.elim h
    | (obtain ⟨hz, q⟩ := h
       obtain ⟨t, rfl⟩ := rx
       refine ⟨"str", _, F.slot_str_getitem.lookup, typeIs_str _ _ _, ?_⟩
       cases pl <;> cases pu
       · exact wpAny_getItem_str_slice (l := none) (u := none) (st := none) hs rfl (post_val_or_str ⟨Nat.le_trans (Txt.slice_le _ _ _) hz, fun t' k => ⟨.str _, H, I.tok _, ⟨_, rfl⟩, q⟩⟩)
       · exact wpAny_getItem_str_slice (l := none) (u := some (_, _)) (st := none) hs rfl (post_val_or_str ⟨Nat.le_trans (Txt.slice_le _ _ _) hz, fun t' k => ⟨.str _, H, I.tok _, ⟨_, rfl⟩, q⟩⟩)
       · exact wpAny_getItem_str_slice (l := some (_, _)) (u := none) (st := none) hs rfl (post_val_or_str ⟨Nat.le_trans (Txt.slice_le _ _ _) hz, fun t' k => ⟨.str _, H, I.tok _, ⟨_, rfl⟩, q⟩⟩)
       · exact wpAny_getItem_str_slice (l := some (_, _)) (u := some (_, _)) (st := none) hs rfl (post_val_or_str ⟨Nat.le_trans (Txt.slice_le _ _ _) hz, fun t' k => ⟨.str _, H, I.tok _, ⟨_, rfl⟩, q⟩⟩))
def dAddS : R2 := fun x y H Q => match x, y with
  | .str i, .str j => i.length + j.length ≤ sizeLine ∧ Q (.str (i ++ j)) H
  | _, _ => False
theorem o_addS : OpR X (binaryOp .Add) dAddS := by
  intro pins s σ H x y v u Q I rx ry q
  cases x <;> cases y <;> first
    | exact False.elim q
    | exact op_add_str _ _ _ _ _ _ _ _ _ I rx ry ⟨_, _, rfl, rfl, q.1, q.2⟩
def dIxS : R2 := fun x y H Q => match x, y with
  | .str z, .int i => ∃ c, z.length ≤ sizeLine ∧ atI z.cps.toList i = some c ∧ Q (.str ⟨#[c]⟩) H
  | _, _ => False
theorem i_str : IxR X dIxS := by
  intro value slice pins s σ H x y v u Q I rx ry h hs
  cases x <;> cases y <;> first
    | exact False.elim h
    | (obtain ⟨c, h1, h2, q⟩ := h
       exact ix_str value slice pins s σ H _ _ v u Q I rx ry ⟨_, _, c, rfl, rfl, h1, h2, q⟩ hs)
theorem strs_of : ∀ {ys : List Str} {us : List Value}, Vals (ys.map V.str) us → StrsAre us ys
  | [], _, r => by
    cases r
    exact .nil
  | y :: ys, _, r => by
    cases r with
    | cons r1 r2 =>
      obtain ⟨t, rfl⟩ := r1
      exact .cons y t (strs_of r2)
def dJoin (K : PySem.W.Frag) : V → List V → Hp → VK → Prop := fun x xs H Q => match x, xs with
  | .str sep, [.ref p] => ∃ ys : List Str, SqL K H p (ys.map V.str) ∧ (ys.map (·.length)).sum + ys.length * sep.length ≤ 16777216 ∧ Q (.str (Txt.join sep ys)) H
  | _, _ => False
theorem m_join : MtR X "str.join" (dJoin X.K) := by
  intro pins s σ H x xs v us Q I rx rs h
  match x, xs, h with
  | .str sep, [.ref p], ⟨ys, h1, h2, q⟩ =>
    obtain ⟨t, rfl⟩ := rx
    obtain ⟨u, rfl, r1⟩ := vals1 rs
    cases r1
    obtain ⟨its, r, pl, _⟩ := I.list h1
    exact PyProof.Rows.join_list pl.isList (strs_of r) h2 fun t' k => ⟨.str _, H, I.tok _, ⟨_, rfl⟩, q⟩
theorem e_join {o : Expr} {to ta : _} {name : Str} {apos cpos : Pos} (ho : PE X o to) (ha : PA X [e] ta) (hbase : attributeBase o "join" X.env (eval o X.env) = eval o X.env := by rfl)
    (hfew : ((backTo cpos (starEach [e] X.env)).all (fun x => !x.1) && (backToKw cpos (keywordEach [] X.env)).all (fun x => x.1.isSome) && decide ([e].length + ([] : List Keyword).length + (if ([] : List Keyword).isEmpty then 0 else 1) < 30)) = true := by rfl)
    (hline : (apos.endLine == cpos.line) = true := by rfl) (hs : starEach [e] X.env = (false, eval e X.env) :: starEach [] X.env := by rfl) (hplain : (backTo cpos (starEach [] X.env)).any (·.1) = false := by rfl) :
    PE X (.Call (.Attribute o "join" apos) [e] [] cpos) (tBM X.K "str" (dJoin X.K) to ta) := pe_bm F.plainAttrs_str F.slot_str_join F.type_str_join m_join ho ha hbase hfew hline hs hplain
def dInS (K : PySem.W.Frag) : R2 := fun x y H Q => match y with
  | .ref p => ∃ xs, (SqL K H p xs ∨ SqT K H p xs) ∧ flatV x = true ∧ xs.all flatV = true ∧ Q (.bl (inV x xs)) H
  | _ => False
theorem o_in : OpR X (compareOp .In) (dInS X.K) := by
  intro pins s σ H x y v u Q I rx ry q
  cases y <;> first
    | exact False.elim q
    | (obtain ⟨xs, h1, h2, h3, q⟩ := q
       exact op_in_seq _ _ _ _ _ _ _ _ _ I rx ry ⟨_, xs, rfl, h1, h2, h3, q⟩)
end
end Lw
end
section
set_option Elab.async false
set_option linter.all false
set_option maxRecDepth 100000
set_option maxHeartbeats 4000000
namespace Lw
open PySem PySem.Spec PyProof.Rows L2
def co (x : Str) : List Nat := x.cps.toList
theorem co_len (x : Str) : (co x).length = x.length := by simp [co, Str.length]
theorem co_app (x y : Str) : co (x ++ y) = co x ++ co y := by
  show (x.cps ++ y.cps).toList = x.cps.toList ++ y.cps.toList
  rw [Array.toList_append]
theorem co_one (c : Nat) : co ⟨#[c]⟩ = [c] := rfl
theorem len_app (x y : Str) : (x ++ y).length = x.length + y.length := by
  rw [← co_len, co_app, List.length_append, co_len, co_len]
theorem co_join (sep : Str) : ∀ ys : List Str, co (Txt.join sep ys) = co (Str.join sep ys) := fun ys => by
  show co (Builtin.Str.glued sep ys) = _
  rw [StrLaws.glued_eq_join]
theorem join0 : ∀ ys : List Str, co (Txt.join (Str.ofString "") ys) = (ys.map co).flatten := by
  intro ys
  rw [co_join]
  induction ys with
  | nil => rfl
  | cons x r ih =>
    cases r with
    | nil => simp [Str.join]
    | cons y r =>
      show co (x ++ Str.ofString "" ++ Str.join (Str.ofString "") (y :: r)) = _
      have e : co (Str.ofString "") = [] := by decide +kernel
      rw [co_app, co_app, ih, e, List.append_nil]
      rfl
theorem rng_gen (a b : Nat) : sliceRange (a : Int) (b : Int) 1 = (List.range (b - a)).map (fun k => a + k) := by
  unfold sliceRange
  simp only [show ((1 : Int) > 0) = True from by simp, if_true]
  by_cases h : (a : Int) < b
  · have e3 : (((b : Int) - a + 1 - 1) / 1).toNat = b - a := by omega
    simp only [h, if_true, e3]
    refine List.map_congr_left fun k _ => ?_
    omega
  · have : b - a = 0 := by omega
    simp [h, this]
theorem clip_gen (n d : Nat) (i : Int) : max (0 : Int) (min (if i < 0 then i + (n : Int) else i) (n : Int)) = ((HT.sIx n d (some i) : Nat) : Int) := by
  show _ = (((if i < 0 then (i + (n : Int)).toNat else min i.toNat n) : Nat) : Int)
  by_cases h : i < 0
  · simp only [if_pos h]; omega
  · simp only [if_neg h]; omega
theorem idx_gen (lo hi : Option Int) (n : Nat) : Builtin.Str.strSliceIndices lo hi 1 n = (List.range (HT.sIx n n hi - HT.sIx n 0 lo)).map (fun k => HT.sIx n 0 lo + k) := by
  rw [← rng_gen]
  unfold Builtin.Str.strSliceIndices
  simp only [show ((1 : Int) > 0) = True from by simp, if_true]
  cases lo with
  | none =>
    cases hi with
    | none => rfl
    | some j =>
      show sliceRange 0 (max (0 : Int) (min (if j < 0 then j + (n : Int) else j) (n : Int))) 1 = _
      rw [clip_gen n n j]
      rfl
  | some i =>
    cases hi with
    | none =>
      show sliceRange (max (0 : Int) (min (if i < 0 then i + (n : Int) else i) (n : Int))) (n : Int) 1 = _
      rw [clip_gen n 0 i]
      rfl
    | some j =>
      show sliceRange (max (0 : Int) (min (if i < 0 then i + (n : Int) else i) (n : Int))) (max (0 : Int) (min (if j < 0 then j + (n : Int) else j) (n : Int))) 1 = _
      rw [clip_gen n 0 i, clip_gen n n j]
theorem co_slice (x : Str) (lo hi : Option Int) : co (Txt.slice x lo hi) = ((co x).drop (HT.sIx x.length 0 lo)).take (HT.sIx x.length x.length hi - HT.sIx x.length 0 lo) := by
  have ha := HT.sIx_le x.length 0 (Nat.zero_le _) lo
  have hb := HT.sIx_le x.length x.length (Nat.le_refl _) hi
  have hl := co_len x
  unfold Txt.slice
  rw [idx_gen]
  generalize HT.sIx x.length 0 lo = a at *
  generalize HT.sIx x.length x.length hi = b at *
  split
  · rename_i h
    have h2 : b - a = x.length := by simpa using h
    have a0 : a = 0 := by omega
    subst a0
    rw [List.drop_zero, List.take_of_length_le (by omega)]
  · have p := StrLaws.picks (co x) (b - a) a (by omega)
    rw [← p]
    show (List.filterMap _ _).toArray.toList = _
    rw [List.toList_toArray]
    congr 1
    funext k
    show x.cps[k]? = x.cps.toList[k]?
    rw [Array.getElem?_toList]
theorem co_to {x : Str} {j : Nat} (h : j ≤ x.length) : co (Txt.slice x none (some (j : Int))) = (co x).take j := by
  rw [co_slice, HT.sIx_none, HT.sIx_nat, Nat.min_eq_left h, List.drop_zero, Nat.sub_zero]
theorem co_cut {x : Str} {i j : Nat} (h : i ≤ x.length) (h' : j ≤ x.length) : co (Txt.slice x (some (i : Int)) (some (j : Int))) = ((co x).drop i).take (j - i) := by
  rw [co_slice, HT.sIx_nat, HT.sIx_nat, Nat.min_eq_left h, Nat.min_eq_left h']
def abc : Str := Str.ofString "abcdefghijklmnopqrstuvwxyz"
def lt (n : Int) : Nat := 97 + (n % 26).toNat
structure Nm (x : Str) : Prop where
  len1 : 1 ≤ (co x).length
  len8 : (co x).length ≤ 8
  abc : ∀ c ∈ co x, 97 ≤ c ∧ c < 123
theorem ok_of {x : Str} (h : ∀ c ∈ co x, c < 1114112) : PyData.strOk x = true := by
  unfold PyData.strOk
  rw [← Array.all_toList, List.all_eq_true]
  exact fun c hc => decide_eq_true (h c hc)
end Lw
end
section
set_option Elab.async false
set_option linter.all false
set_option maxRecDepth 100000
set_option maxHeartbeats 4000000
set_option autoImplicit false
namespace Lw
open PySem PySem.Spec PyProof.Rows L2
def vB : List Value := [.type "ValueError", .type "Exception", .type "BaseException", .type "object"]
structure ExcC (K : PySem.W.Frag) (C : Addr) : Prop where
  nw : PySem.W.excIn K C vB "ValueError.__new__" = true
  ga : PySem.W.findIn K (.ref C) "__getattribute__" = some (some (.builtin "BaseException.__getattribute__"))
  gn : PySem.W.findIn K (.ref C) "__getattr__" = some none
  cl : PySem.W.findIn K (.ref C) "__class__" = some (some (.builtin "object.__class__"))
  mo : PySem.W.mroIn K C (.type "object") = some true
  mb : PySem.W.mroIn K C (.type "BaseException") = some true
theorem own_cls {K : PySem.W.Frag} {h : Heap} {mg : Str → Option Value} {x : Str} {C : Addr} {bmB : List Value} {newId : String} (X : K.In h) (b : mg x = some (.ref C)) (q : PySem.W.excIn K C bmB newId = true) : OwnCls x C bmB newId mg h := by
  refine ⟨b, ?_⟩
  unfold PySem.W.excIn at q
  split at q
  · rename_i d0 cd sl lk
    split at q
    · rename_i C' bm a0 a1 a2 a3 n a5 hm hs
      simp only [Bool.and_eq_true, beq_iff_eq, Bool.not_eq_true'] at q
      obtain ⟨⟨⟨⟨⟨e1, e2⟩, hdel⟩, ht⟩, hok⟩, hni⟩ := q
      subst e1 e2
      obtain ⟨nm, bs, mro, ns, qn, hd, sn, sub, ab, col, del⟩ := cd
      dsimp only at hm hdel hok hni
      subst hm hdel
      have e : sl = #[a0, a1, a2, a3, some (.builtin n), a5] := by
        obtain ⟨l⟩ := sl
        simp only at hs
        rw [hs]
      subst e
      have N0 : h.isNs ns = true := PySem.W.isNs_of_in X hok
      exact ⟨bm, ns, nm, qn, bs, hd, sn, sub, ab, col, d0, a0, a1, a2, a3, a5, _, X _ _ lk, .of_isNs N0, PySem.W.nsMap_none_of_in X hok hni, PySem.W.tail_of_in X ht⟩
    · cases q
  · cases q
def tRaise (E : XK) (cls : Value) : TS := fun _ _ H => E cls none H
section
variable {P : Program} {w : World} {K : PySem.W.Frag} {mg : Str → Option Value} {base : Heap} {N : List Str} {qual : Str} {scope : Scope} {f : Addr} {cd : Value} {A : Around} {outer : List Env} {s₀ : Shared} {H₀ : Hp} {E : XK}
theorem ps_raise {x : Str} {C : Addr} {np cpos pos p : Pos} {txt : Str} {j : Nat} (hb : mg x = some (.ref C)) (c : ExcC K C) (hg : Gl (cxOf (CXE P w) P w K mg base N qual scope f cd A outer s₀ H₀ E) x) (hd : (x == ("__debug__" : Str)) = false := by decide) :
    PS (cxOf (CXE P w) P w K mg base N qual scope f cd A outer s₀ H₀ E) (.Raise (some (.Call (.Name x np) [.Constant (.str txt) j p] [] cpos)) none pos) (tRaise E (.ref C)) := by
  intro pins s σ H D I h
  have O := own_cls (h := s.heap) I.kIn hb c.nw
  obtain ⟨tl, ns, nm, q, bs, hdct, sn, sub, ab, col, dd, k0, k1, k2, k3, k5, mN, hC, hN, hni, T⟩ := O.obj
  have FB := PySem.F.excBase_ValueError
  refine wpAny_Raise_call_subT (C := C) (nm := nm) (q := q) (N := ns) (bs := bs) (bm := tl) (hdct := hdct) (sn := sn) (sub := sub) (ab := ab) (col := col) (dd := dd) (k0 := k0) (k1 := k1) (k2 := k2) (k3 := k3) (k5 := k5)
    (mN := mN) FB (T.hasType FB.hasBase) (I.ok.hd rfl) rfl hni (ld_glob I hg hb ⟨rfl, ?_⟩ hd)
  refine Calls.evalArgs_plain ?_
  refine spliced_more (Calls.Constant_str (Calls.spliced_nil ?_))
  exact ⟨rfl, (by show 1 ≤ sizeLine; decide), hC, hN, T, fun h' e hx => raiseX (I.tok _) hx h⟩
end
section
variable {P : Program} {w : World} {K : PySem.W.Frag} {mg : Str → Option Value} {base : Heap} {N : List Str} {qual : Str} {scope : Scope} {f : Addr} {cd : Value} {A : Around} {outer : List Env} {s₀ : Shared} {H₀ : Hp} {E : XK}
end
section
variable {prog : Program} {w : World} {A : Around} {E : Value → Shared → Prop} {K : PySem.W.Frag} {x C : Addr}
end
section
variable {X : Cx}
end
section
variable {X : Cx} {pins : List (Addr × Obj)} {σ : L2.St} {H : Hp} {s : Shared}
end
section
variable {X : Cx} {pins : List (Addr × Obj)} {σ : L2.St} {H : Hp} {s : Shared}
end
structure Cat (K : PySem.W.Frag) (D : Addr) : Prop where
  lk : ∃ dd cd sl, K.lookup D = some ⟨.type "type", dd, .cls cd, sl⟩
  mb : PySem.W.mroIn K D (.type "BaseException") = some true
section
variable {X : Cx} {pins : List (Addr × Obj)} {σ : L2.St} {H H' : Hp} {s s' : Shared}
end
end Lw
end
section
set_option Elab.async false
set_option linter.all false
set_option maxRecDepth 100000
set_option maxHeartbeats 4000000
namespace Lw
open PySem PySem.Spec PyProof.Rows L2
section
variable {X : Cx} {a b c : Expr} {ta tb tc : TE} {pos : Pos} {tg : Expr}
def Cst (mg : Str → Option Value) (x : Str) (v : V) : Prop := ∃ u, mg x = some u ∧ RelV v u
theorem g_cst {x : Str} {v : V} (k : Cst X.mg x v) (hg : Gl X x) (hd : (x == ("__debug__" : Str)) = false := by decide) : PE X (.Name x pos) (tC v) := by
  obtain ⟨u, h1, h2⟩ := k
  exact pe_glob hg h1 h2 hd
def dChain (r r' : R2) (ta tb tc : TE) : TE := fun σ H Q => ta σ H fun x H1 => tb σ H1 fun y H2 => r x y H2 fun z H3 => match z with
  | .bl k => Br k (tc σ H3 fun w' H4 => r' y w' H4 Q) (Q (.bl false) H3)
  | _ => False
theorem dChain_eq (r r' : R2) (ta tb tc : TE) : dChain r r' ta tb tc = tChain r r' ta tb tc := by
  funext σ H Q
  unfold dChain tChain
  congr 1
  funext x H1
  congr 1
  funext y H2
  congr 1
  funext z H3
  apply propext
  cases z <;> simp [br_eq]
theorem e_chain {op op' : CmpOp} {r r' : R2} (ho : OpR X (compareOp op) r) (ho' : OpR X (compareOp op') r') (ha : PE X a ta) (hb : PE X b tb) (hc : PE X c tc)
    (hm : lastMarks [op, op'] [b, c] = false := by with_unfolding_all rfl) : PE X (.Compare a [op, op'] [b, c] pos) (dChain r r' ta tb tc) := by
  rw [dChain_eq]
  exact pe_chain ho ho' ha hb hc hm
theorem t_chain {op op' : CmpOp} {r r' : R2} (ho : OpR X (compareOp op) r) (ho' : OpR X (compareOp op') r') (ha : PE X a ta) (hb : PE X b tb) (hc : PE X c tc)
    (hm : lastMarks [op, op'] [b, c] = false := by with_unfolding_all rfl) : PT X (.Compare a [op, op'] [b, c] pos) (dTest (dChain r r' ta tb tc)) := by
  rw [dTest_eq, dChain_eq]
  exact pt_chain ho ho' ha hb hc hm
def dAll (K : PySem.W.Frag) : List V → Hp → VK → Prop := fun xs H Q => match xs with
  | [.ref p] => ∃ bs : List Bool, SqL K H p (bs.map V.bl) ∧ Q (.bl (bs.all id)) H
  | _ => False
theorem vals_bls : ∀ {bs : List Bool} {us : List Value}, Vals (bs.map V.bl) us → us = bs.map Value.bool
  | [], _, r => by cases r; rfl
  | d :: ds, _, r => by
    cases r with
    | cons r1 r2 => rw [show _ = Value.bool d from r1, vals_bls r2]; rfl
theorem range_all : ∀ bs : List Bool, ((List.range bs.length).all fun i => bs.getD i true) = bs.all id := by
  intro bs
  rw [Bool.eq_iff_iff, List.all_eq_true, List.all_eq_true]
  constructor
  · intro h b hb
    obtain ⟨i, hi, rfl⟩ := List.getElem_of_mem hb
    have := h i (List.mem_range.mpr hi)
    rw [List.getD_eq_getElem?_getD, List.getElem?_eq_getElem hi] at this
    exact this
  · intro h i hi
    have hi := List.mem_range.mp hi
    rw [List.getD_eq_getElem?_getD, List.getElem?_eq_getElem hi]
    exact h _ (List.getElem_mem hi)
theorem c_all (hc : X.calm = true) : CallR X (.builtin "all") (dAll X.K) := by
  intro pins s σ H xs us Q I r h
  match xs, h with
  | [.ref p], ⟨bs, h1, q⟩ =>
    obtain ⟨u, rfl, r1⟩ := vals1 r
    cases (show u = Value.ref p from r1)
    obtain ⟨its, rv, pl, _⟩ := I.list h1
    have e := vals_bls rv
    subst e
    have hh := I.ok.hd hc
    have il := pl.isList
    obtain ⟨ob, eb, rb⟩ := id il
    have ne : p ≠ s.heap.objs.size := Nat.ne_of_lt (Heap.lt_size eb)
    refine call_all_walk (wpAny_pyIter_list il ?_)
    refine ⟨s.heap.objs.size, _, _, _, _, _, fun i => bs.getD i true, rfl, Walks.list (A := X.A.in1) hh s.heap.objs.size p ne (bs.map Value.bool).toArray, ⟨⟨_, Heap.get?_push_size _ rfl, rfl, rfl⟩, ⟨ob, Heap.get?_push_of_some _ eb, rb⟩⟩, fun i v s2 Q2 E2 hP hQ => ?_, fun h' tk k => ?_⟩
    · have hP : (bs.map Value.bool).toArray[i]? = some v := hP
      rw [List.getElem?_toArray, List.getElem?_map] at hP
      cases e2 : bs[i]? with
      | none =>
        rw [e2] at hP
        cases hP
      | some d =>
        rw [e2] at hP
        cases hP
        refine wpAny_truthy_bool ?_
        have : bs.getD i true = d := by rw [List.getD_eq_getElem?_getD, e2]; rfl
        rw [← this]
        exact hQ
    · refine ⟨.bl (bs.all id), H, I.kept (t' := tk) fun b o e => k b o ?_ (Heap.get?_push_of_some _ e), ?_, q⟩
      · intro z
        have z : b = s.heap.objs.size := by simpa using z
        exact Nat.lt_irrefl _ (z ▸ Heap.lt_size e)
      · show Value.bool _ = Value.bool _
        rw [List.size_toArray, List.length_map, range_all]
end
end Lw
end
section
set_option Elab.async false
set_option linter.all false
set_option maxRecDepth 100000
set_option maxHeartbeats 4000000
set_option autoImplicit false
namespace Lw
open PySem PySem.Spec PyProof.Rows L2
section
variable {X : Cx} {pos : Pos}
def dListN (K : PySem.W.Frag) : List V → Hp → VK → Prop := fun xs H Q => match xs with
  | [.ref p] => ∃ ys, (SqL K H p ys ∨ SqT K H p ys) ∧ ∀ l, H l = none → Q (.ref l) (upd H l (.lst ys))
  | _ => False
theorem c_listN : CallR X (.type "list") (dListN X.K) := by
  intro pins s σ H xs us Q I r h
  match xs, h with
  | [.ref p], ⟨ys, h1, q⟩ => exact call_list_of pins s σ H _ us Q I r ⟨p, ys, rfl, h1, q⟩
end
end Lw
end
section
set_option Elab.async false
set_option linter.all false
set_option maxRecDepth 100000
set_option maxHeartbeats 4000000
set_option autoImplicit false
namespace Lw
open PySem PySem.Spec PyProof.Rows L2
section
variable {X : Cx} {pos : Pos}
structure TupD (K : PySem.W.Frag) (a : Addr) (xs : List V) : Prop where
  sq : ∀ H, SqT K H a xs
  ty : ∃ o, K.lookup a = some o ∧ o.cls = .type "tuple" ∧ o.dict = none
end
section
open PySem.AutoSeq1 (wpAny_loadPart')
open PySem.MeetsSeq PySem.MeetsSeq2 PySem.MeetsSeq3 PySem.SeqRoads2 PySem.SeqAt
section
variable {X : Cx} {pos : Pos}
end
end
end Lw
end
section
set_option Elab.async false
set_option linter.all false
set_option maxRecDepth 100000
set_option maxHeartbeats 4000000
set_option autoImplicit false
namespace Lw
open PySem PySem.Spec PyProof.Rows L2
section
variable {X : Cx} {pos p2 p3 p4 : Pos}
end
end Lw
end
section
set_option Elab.async false
set_option linter.all false
set_option maxRecDepth 100000
set_option maxHeartbeats 4000000
namespace Lw
open PySem PySem.Spec PyProof.Rows L2
section
variable {X : Cx}
def tCutE (t u : TS) : TS := fun D σ H => ∃ R : L2.St → Hp → Prop, t { D with nx := R } σ H ∧ ∀ σ' H', R σ' H' → u D σ' H'
theorem ss_cutE {st : Stmt} {r : List Stmt} {t u : TS} (h1 : PS X st t) (h2 : PSs X r u) : PSs X (st :: r) (tCutE t u) := by
  intro pins s σ H D I h
  obtain ⟨R, h⟩ := h
  exact ss_cut R h1 h2 pins s σ H D I h
end
end Lw
end
section
set_option Elab.async false
set_option linter.all false
set_option maxRecDepth 100000
set_option maxHeartbeats 4000000
namespace Lw
open PySem PySem.Spec PyProof.Rows L2
def dd (l : List Str) (x : Str) : List Str := if x ∈ l then l else l ++ [x]
def lS (a b : Str) : Prop := a.cps.toList < b.cps.toList
instance : DecidableRel lS := fun a b => inferInstanceAs (Decidable (a.cps.toList < b.cps.toList))
theorem lS_irr (a : Str) : ¬ lS a a := List.lt_irrefl _
theorem lS_tr {a b c : Str} (h : lS a b) (h' : lS b c) : lS a c := List.lt_trans h h'
theorem lS_tri {a b : Str} (h : ¬ lS a b) (h' : ¬ lS b a) : a = b := by
  have e := List.le_antisymm (List.not_lt.mp h') (List.not_lt.mp h)
  cases a; cases b
  simpa using Array.toList_inj.mp e
theorem lS_as {a b : Str} (h : lS a b) : ¬ lS b a := List.lt_asymm h
abbrev Inc (l : List Str) : Prop := l.Pairwise lS
theorem inc_ext : ∀ {l m : List Str}, Inc l → Inc m → (∀ x, x ∈ l ↔ x ∈ m) → l = m
  | [], [], _, _, _ => rfl
  | [], b :: m, _, _, h => absurd ((h b).mpr (List.mem_cons_self ..)) (by simp)
  | a :: l, [], _, _, h => absurd ((h a).mp (List.mem_cons_self ..)) (by simp)
  | a :: l, b :: m, h1, h2, h => by
    have ⟨a1, a2⟩ := List.pairwise_cons.mp h1
    have ⟨b1, b2⟩ := List.pairwise_cons.mp h2
    have e : a = b := by
      rcases List.mem_cons.mp ((h a).mp (List.mem_cons_self ..)) with e | e
      · exact e
      · rcases List.mem_cons.mp ((h b).mpr (List.mem_cons_self ..)) with f | f
        · exact f.symm
        · exact absurd (b1 a e) (lS_as (a1 b f))
    subst e
    rw [inc_ext a2 b2 fun x => ⟨fun hx => ?_, fun hx => ?_⟩]
    · rcases List.mem_cons.mp ((h x).mp (List.mem_cons_of_mem _ hx)) with e | e
      · subst e
        exact absurd (a1 x hx) (lS_irr x)
      · exact e
    · rcases List.mem_cons.mp ((h x).mpr (List.mem_cons_of_mem _ hx)) with e | e
      · subst e
        exact absurd (b1 x hx) (lS_irr x)
      · exact e
def insS (x : Str) : List Str → List Str
  | [] => [x]
  | y :: l => if lS x y then x :: y :: l else if lS y x then y :: insS x l else y :: l
theorem mem_insS {x z : Str} : ∀ {l : List Str}, z ∈ insS x l ↔ z = x ∨ z ∈ l
  | [] => by simp [insS]
  | y :: l => by
    unfold insS
    split
    · simp
    · split
      · simp only [List.mem_cons, mem_insS (l := l)]
        constructor
        · rintro (h | h | h)
          · exact .inr (.inl h)
          · exact .inl h
          · exact .inr (.inr h)
        · rintro (h | h | h)
          · exact .inr (.inl h)
          · exact .inl h
          · exact .inr (.inr h)
      · rename_i h1 h2
        have e := lS_tri h1 h2
        subst e
        simp
theorem inc_insS {x : Str} : ∀ {l : List Str}, Inc l → Inc (insS x l)
  | [], _ => List.pairwise_singleton ..
  | y :: l, h => by
    have ⟨h1, h2⟩ := List.pairwise_cons.mp h
    unfold insS
    split
    · rename_i c
      exact List.pairwise_cons.mpr ⟨fun z hz => (List.mem_cons.mp hz).elim (fun e => e ▸ c) (fun e => lS_tr c (h1 z e)), h⟩
    · split
      · rename_i c
        exact List.pairwise_cons.mpr ⟨fun z hz => (mem_insS.mp hz).elim (fun e => e ▸ c) (h1 z), inc_insS h2⟩
      · exact h
def srt (l : List Str) : List Str := l.foldr insS []
theorem inc_srt : ∀ (l : List Str), Inc (srt l)
  | [] => List.Pairwise.nil
  | x :: l => inc_insS (inc_srt l)
theorem mem_srt {x : Str} : ∀ {l : List Str}, x ∈ srt l ↔ x ∈ l
  | [] => Iff.rfl
  | y :: l => by
    show x ∈ insS y (srt l) ↔ _
    rw [mem_insS, mem_srt (l := l), List.mem_cons]
theorem mem_dd {l : List Str} {x z : Str} : z ∈ dd l x ↔ z ∈ l ∨ z = x := by
  unfold dd
  split
  · rename_i h
    constructor
    · exact .inl
    · rintro (h' | rfl)
      · exact h'
      · exact h
  · simp
theorem nodup_dd {l : List Str} {x : Str} (h : l.Nodup) : (dd l x).Nodup := by
  unfold dd
  split
  · exact h
  · rename_i c
    rw [List.nodup_append]
    exact ⟨h, List.nodup_cons.mpr ⟨by simp, List.nodup_nil⟩, fun a ha b hb e => by
      rw [List.mem_singleton] at hb
      subst hb e
      exact c ha⟩
def ddn (val : Nat → Str) (i : Nat) : List Str := ((List.range i).map val).foldl dd []
theorem ddn_succ (val : Nat → Str) (i : Nat) : ddn val (i + 1) = dd (ddn val i) (val i) := by
  unfold ddn
  rw [List.range_succ, List.map_append, List.foldl_append]
  rfl
theorem ddn_nodup (val : Nat → Str) : ∀ i, (ddn val i).Nodup
  | 0 => List.nodup_nil
  | i + 1 => by
    rw [ddn_succ]
    exact nodup_dd (ddn_nodup val i)
theorem mem_ddn {val : Nat → Str} {x : Str} : ∀ {i : Nat}, x ∈ ddn val i ↔ ∃ j, j < i ∧ val j = x
  | 0 => ⟨fun h => (by cases h), fun ⟨j, h, _⟩ => absurd h (Nat.not_lt_zero _)⟩
  | i + 1 => by
    rw [ddn_succ, mem_dd, mem_ddn (i := i)]
    constructor
    · rintro (⟨j, h, e⟩ | e)
      · exact ⟨j, Nat.lt_succ_of_lt h, e⟩
      · exact ⟨i, Nat.lt_succ_self _, e.symm⟩
    · rintro ⟨j, h, e⟩
      rcases Nat.lt_succ_iff_lt_or_eq.mp h with h | rfl
      · exact .inl ⟨j, h, e⟩
      · exact .inr e.symm
theorem pairwise_inc {l : List Str} (h : l.Pairwise fun a b => ¬ lS b a) (n : l.Nodup) : Inc l := by
  induction l with
  | nil => exact List.Pairwise.nil
  | cons a l ih =>
    have ⟨h1, h2⟩ := List.pairwise_cons.mp h
    have ⟨n1, n2⟩ := List.nodup_cons.mp n
    refine List.pairwise_cons.mpr ⟨fun b hb => ?_, ih h2 n2⟩
    refine Decidable.byContradiction fun c => n1 ?_
    have e := lS_tri c (h1 b hb)
    exact e ▸ hb
theorem erase_perm {α : Type} : ∀ (l : List α) (i : Nat) (x : α), l[i]? = some x → (x :: l.eraseIdx i).Perm l
  | [], i, x, h => by simp at h
  | a :: l, 0, x, h => by
    simp at h
    subst h
    exact List.Perm.refl _
  | a :: l, i + 1, x, h => by
    simp only [List.getElem?_cons_succ] at h
    show (x :: a :: l.eraseIdx i).Perm (a :: l)
    exact (List.Perm.swap ..).trans ((erase_perm l i x h).cons a)
theorem nd_len {α : Type} [DecidableEq α] : ∀ {l m : List α}, l.Nodup → (∀ x ∈ l, x ∈ m) → l.length ≤ m.length
  | [], m, _, _ => Nat.zero_le _
  | a :: l, m, n, h => by
    have ⟨n1, n2⟩ := List.nodup_cons.mp n
    have ha : a ∈ m := h a (List.mem_cons_self ..)
    have := nd_len (l := l) (m := m.erase a) n2 fun x hx => (List.mem_erase_of_ne (fun e : x = a => n1 (e ▸ hx))).mpr (h x (List.mem_cons_of_mem _ hx))
    rw [List.length_erase_of_mem ha] at this
    have : 0 < m.length := List.length_pos_of_mem ha
    rw [List.length_cons]
    omega
theorem inc_nodup {l : List Str} (h : Inc l) : l.Nodup := List.Pairwise.imp (S := fun a b => a ≠ b) (fun {a b} (h : lS a b) (e : a = b) => lS_irr a (e ▸ h)) h
theorem ddn_mem {names : List Str} {x : Str} : x ∈ ddn (fun i => names.getD i ⟨#[]⟩) names.length ↔ x ∈ names := by
  rw [mem_ddn]
  constructor
  · rintro ⟨j, h, rfl⟩
    rw [List.getD_eq_getElem?_getD, List.getElem?_eq_getElem h]
    exact List.getElem_mem h
  · intro h
    obtain ⟨j, hj, e⟩ := List.mem_iff_getElem.mp h
    exact ⟨j, hj, by rw [List.getD_eq_getElem?_getD, List.getElem?_eq_getElem hj]; exact e⟩
theorem ddn_srt (names : List Str) : (ddn (fun i => names.getD i ⟨#[]⟩) names.length).length ≤ (srt names).length :=
  nd_len (ddn_nodup _ _) fun x hx => mem_srt.mpr (ddn_mem.mp hx)
end Lw
end
section
set_option Elab.async false
set_option linter.all false
set_option maxRecDepth 100000
set_option maxHeartbeats 4000000
namespace Lw
open PySem PySem.Spec PyProof.Rows L2
def byTx (w : World) : Bool := w.params.followText "set-order"
def tx (e : Int × Value) : Str := strOf e.2
structure SetO (prog : Program) (w : World) (o : Obj) (ss : List Str) (es : Array (Int × Value)) (ep : Nat) (t : SetTable) : Prop where
  ex : o.ExactSet
  dat : o.data = .set es ep t
  el : ElemsOf (PySem.strKind prog w) es.toList
  pm : (es.toList.map tx).Perm ss
  fit : t.fits es.size = true
  bd : es.size < scanBound
  led : t.led = !byTx w
  pl : 0 < es.size → t.plain = false
def SetS (prog : Program) (w : World) (h : Heap) (a : Addr) (ss : List Str) : Prop := ∃ o es ep t, h.get? a = some o ∧ SetO prog w o ss es ep t
theorem SetO.size {prog : Program} {w : World} {o : Obj} {ss : List Str} {es : Array (Int × Value)} {ep : Nat} {t : SetTable} (S : SetO prog w o ss es ep t) : es.size = ss.length := by
  rw [← S.pm.length_eq, List.length_map, Array.length_toList]
theorem relaid_keeps {t t' : SetTable} {hs : Array Int} {n : Nat} {o : Array Nat} (h : t.relaid hs n = some (t', o)) : t'.led = t.led ∧ t'.plain = t.plain := by
  unfold SetTable.relaid SetTable.laid at h
  cases hl : SetTable.layClean (SetTable.sizeAbove n - 1) hs with
  | none =>
    rw [hl] at h
    cases h
  | some ow =>
    rw [hl] at h
    cases h
    exact ⟨rfl, rfl⟩
theorem relayAll_keeps (t : SetTable) (es : Array (Int × Value)) (n : Nat) : (relayAll t es n).2.1.led = t.led ∧ (t.plain = false → (relayAll t es n).2.1.plain = false) := by
  unfold relayAll
  split
  · rename_i t' o e
    obtain ⟨h1, h2⟩ := relaid_keeps e
    dsimp only
    split
    · exact ⟨h1, fun h => h2.trans h⟩
    · exact ⟨rfl, fun _ => rfl⟩
  · exact ⟨rfl, fun _ => rfl⟩
theorem orStandIn_led (t : SetTable) (n : Nat) : (t.orStandIn n).led = t.led := by
  unfold SetTable.orStandIn
  split <;> rfl
theorem layNew_led (t : SetTable) (es : Array (Int × Value)) (h : Int) (x : Value) : (layNew t es h x).2.1.led = t.led := by
  unfold layNew
  split
  · exact orStandIn_led _ _
  · rfl
theorem tx_of {prog : Program} {w : World} {k : Str} {e : Int × Value} (h : (PySem.strKind prog w).is k e.2 = true) : tx e = k := by
  obtain ⟨t, z⟩ := Value.isStrOf_shape h
  unfold tx
  rw [z]
  rfl
theorem storeS {prog : Program} {w : World} {h : Heap} {a : Addr} {o : Obj} {ss ss' : List Str} {es es' : Array (Int × Value)} {ep : Nat} {t t' : SetTable} (ho : h.get? a = some o) (S : SetO prog w o ss es ep t)
    (e1 : ElemsOf (PySem.strKind prog w) es'.toList) (e2 : (es'.toList.map tx).Perm ss') (e3 : t'.fits es'.size = true) (e4 : es'.size < scanBound) (e5 : t'.led = !byTx w) (e6 : t'.plain = false) :
    ∃ o', (h.update a (Obj.putSet es' t')).get? a = some o' ∧ SetO prog w o' ss' es' (ep + 1) t' := by
  have g := Heap.get?_update_self (Obj.putSet es' t') ho (by rw [putSet_of es' t' S.dat]; rfl)
  rw [putSet_of es' t' S.dat] at g
  exact ⟨_, g, ⟨S.ex, rfl, e1, e2, e3, e4, e5, fun _ => e6⟩⟩
section
variable {prog : Program} {w : World} {A : Around} {E : Value → Shared → Prop} {s : Shared}
theorem tailS {f : Bool → Sem Unit} (hf : ∀ (b : Bool) (s1 : Shared) (Q' : Unit → Shared → Prop), Q' () s1 → wpAny (model prog w) A (f b) Q' E s1) {a : Addr} {o : Obj} {ss ss' : List Str} {es es' : Array (Int × Value)} {ep : Nat} {t t' : SetTable}
    (ho : s.heap.get? a = some o) (S : SetO prog w o ss es ep t) (e1 : ElemsOf (PySem.strKind prog w) es'.toList) (e2 : (es'.toList.map tx).Perm ss') (e3 : t'.fits es'.size = true) (e4 : es'.size < scanBound) (e5 : t'.led = !byTx w)
    (e6 : t'.plain = false) {wd : Bool} {R : Option Bool → Shared → Prop} (q : ∀ g, Heap.SameBut a s.heap g → SetS prog w g a ss' → R (some true) { s with heap := g }) :
    wpAny (model prog w) A (do
      storeSet a es' t'
      if (!wd && t'.tooFull) = true then do { f (relayAll t' es' (SetTable.grown es'.size)).2.2; storeSet a (relayAll t' es' (SetTable.grown es'.size)).1 (relayAll t' es' (SetTable.grown es'.size)).2.1; pure (some true) } else pure (some true)) R E s := by
  refine wpAny_bind (wpAny_storeSet_of ho S.dat ?_ (fits_of_scanBound e4))
  obtain ⟨o1, g1, S1⟩ := storeS ho S e1 e2 e3 e4 e5 e6
  have b1 := Heap.SameBut.update s.heap a (Obj.putSet es' t')
  split
  · have r1 := relayAll_perm t' es' (SetTable.grown es'.size)
    have r2 := relayAll_fits t' es' (SetTable.grown es'.size)
    have r3 := relayAll_keeps t' es' (SetTable.grown es'.size)
    generalize relayAll t' es' (SetTable.grown es'.size) = L at r1 r2 r3 ⊢
    obtain ⟨fs, u, gv⟩ := L
    dsimp only at r1 r2 r3 ⊢
    have hz : fs.size = es'.size := by rw [← Array.length_toList, r1.length_eq, Array.length_toList]
    have hb : fs.size < scanBound := by rw [hz]; exact e4
    refine wpAny_bind (hf _ _ _ (wpAny_bind (wpAny_storeSet_of g1 S1.dat ?_ (fits_of_scanBound hb))))
    obtain ⟨o2, g2, S2⟩ := storeS g1 S1 (e1.perm r1) ((r1.map tx).trans e2) r2 hb (r3.1.trans e5) (r3.2 e6)
    exact wpAny_pure (q _ (b1.trans (Heap.SameBut.update _ a _)) ⟨o2, fs, _, u, g2, S2⟩)
  · exact wpAny_pure (q _ b1 ⟨o1, es', _, t', g1, S1⟩)
theorem addS {a : Addr} {ss : List Str} {x : Str} {tk : Tok} {Q : Bool → Shared → Prop} (hS : SetS prog w s.heap a ss) (room : ss.length + 1 < scanBound)
    (q : ∀ b g, Heap.SameBut a s.heap g → SetS prog w g a (dd ss x) → Q b { s with heap := g }) : wpAny (model prog w) A (setAddHashed a (.str x tk) ((PySem.strKind prog w).hash x)) Q E s := by
  obtain ⟨o, es, ep, t, ho, S⟩ := hS
  have key : (PySem.strKind prog w).is x (.str x tk) = true := by
    show (x == x) = true
    simp
  have scn : (Value.str x tk).scannable = true := rfl
  have hz := S.size
  unfold setAddHashed setAddHashedIn
  refine wpAny_holding (wpAny_bind (wpAny_setState_of ho S.dat S.fit ?_))
  dsimp only
  rw [byScan_of scn S.bd S.el]
  simp only [↓reduceIte]
  unfold setAddByScan
  refine wpAny_bind (wpAny_bind (wpAny_rule (wpAny_bind (wpAny_setScan_of (knd := PySem.strKind prog w) key ho S.dat S.fit S.el ?_))))
  cases hr : List.findIdx? (fun e => (PySem.strKind prog w).is x e.2) es.toList with
  | some j =>
    dsimp only
    obtain ⟨hj, hp, _⟩ := List.findIdx?_eq_some_iff_getElem.mp hr
    have hx : x ∈ ss := S.pm.mem_iff.mp (List.mem_map.mpr ⟨_, List.getElem_mem hj, tx_of hp⟩)
    refine wpAny_pure (wpAny_pure ?_)
    refine q false s.heap (Heap.SameBut.refl a s.heap) ⟨o, es, ep, t, ho, ?_⟩
    rw [show dd ss x = ss from if_pos hx]
    exact S
  | none =>
    dsimp only
    have hx : x ∉ ss := fun h => by
      obtain ⟨e, he, z⟩ := List.mem_map.mp (S.pm.mem_iff.mpr h)
      obtain ⟨⟨k, hk, _⟩, _⟩ := S.el e he
      have z' := (tx_of hk).symm.trans z
      subst z'
      have := List.findIdx?_eq_none_iff.mp hr e he
      rw [hk] at this
      cases this
    have gw : ∀ (b : Bool) (s1 : Shared) (Q' : Unit → Shared → Prop), Q' () s1 → wpAny (model prog w) A (match b with | true => rule "set.scan.the-table-gave-way" | false => pure ()) Q' E s1 := fun b s1 Q' h => by
      cases b with
      | true => exact wpAny_rule h
      | false => exact wpAny_pure h
    have r1 := layNew_perm t es ((PySem.strKind prog w).hash x) (.str x tk)
    have r2 := layNew_fits t es ((PySem.strKind prog w).hash x) (.str x tk)
    have r3 := layNew_led t es ((PySem.strKind prog w).hash x) (.str x tk)
    generalize layNew t es ((PySem.strKind prog w).hash x) (.str x tk) = L at r1 r2 r3 ⊢
    obtain ⟨fs, u, wd, gv⟩ := L
    dsimp only at r1 r2 r3 ⊢
    rw [Array.toList_push] at r1
    have f1 : ElemsOf (PySem.strKind prog w) fs.toList := (S.el.push key scn).perm r1
    have f2 : (fs.toList.map tx).Perm (dd ss x) := by
      rw [show dd ss x = ss ++ [x] from if_neg hx]
      refine (r1.map tx).trans ?_
      rw [List.map_append]
      exact S.pm.append_right _
    have fz : fs.size = es.size + 1 := by rw [← Array.length_toList, r1.length_eq, List.length_append, Array.length_toList]; rfl
    have fb : fs.size < scanBound := by rw [fz, hz]; exact room
    have fin : ∀ g, Heap.SameBut a s.heap g → SetS prog w g a (dd ss x) → wpAny (model prog w) A (pure true) Q E { s with heap := g } := fun g b h => wpAny_pure (q true g b h)
    refine wpAny_bind (gw _ _ _ ?_)
    split
    · refine wpAny_bind ?_
      rw [hashByValue_scannable 8 scn]
      refine wpAny_pure ?_
      refine tailS gw ho S f1 f2 (SetTable.fits_plain_off r2) fb (r3.trans S.led) rfl ?_
      intro g b h
      dsimp only
      exact fin g b h
    · rename_i np
      refine wpAny_bind (wpAny_pure ?_)
      simp only [↓reduceIte]
      refine tailS gw ho S f1 f2 r2 fb (r3.trans S.led) (by simpa using np) ?_
      intro g b h
      dsimp only
      exact fin g b h
theorem ddn_len (val : Nat → Str) : ∀ i, (ddn val i).length ≤ i
  | 0 => Nat.le_refl _
  | i + 1 => by
    have h := ddn_len val i
    rw [ddn_succ]
    unfold dd
    split
    · omega
    · rw [List.length_append, List.length_singleton]
      omega
theorem loopS {R : Result → Shared → Prop} {I : Addr} {fp wr : List Addr} {G : Array GenState → Array GenState → Prop} {n : Nat} {P : Nat → Value → Prop} {St : Nat → Shared → Prop} (W : WalksS prog w A.in1 I fp wr G n P St) (S : Addr) (nS : S ∉ fp)
    (val : Nat → Str) (hv : ∀ i v, P i v → ∃ t, v = .str (val i) t) (hb : n + 1 < scanBound) : ∀ (k i : Nat) (s : Shared), n - i = k → i ≤ n → St i s → SetS prog w s.heap S (ddn val i) →
      (∀ s', Moved (S :: wr) G s s' → SetS prog w s'.heap S (ddn val n) → R (.ok (.ret .none)) s') → codeAny (model prog w) A (.builtin "set.update.loop" ⟨[.ref S, .ref I], []⟩) R s := by
  have nw : S ∉ wr := fun h => nS (W.sub _ h)
  have sub : ∀ b ∈ wr, b ∈ S :: wr := fun b hb => List.mem_cons_of_mem _ hb
  have keepS : ∀ {s s' : Shared} {ss : List Str}, Moved wr G s s' → SetS prog w s.heap S ss → SetS prog w s'.heap S ss := fun m ⟨o, es, ep, t, h, z⟩ => ⟨o, es, ep, t, m.heap S _ nw h, z⟩
  intro k
  induction k with
  | zero =>
    intro i s hk hi st hS hR
    have e : i = n := by omega
    subst e
    refine codeAny_builtin PyProof.Rows.F.entry_set_update_loop ?_
    rw [Around.under_plainId PyProof.Rows.F.plain_set_update_loop _]
    show wpAny _ A.in1 (pyNext (.ref I) >>= _) _ _ s
    refine wpAny_bind (W.done s _ _ st fun s' m => wpAny_pure (hR s' (m.mono sub) (keepS m hS)))
  | succ k ih =>
    intro i s hk hi st hS hR
    have lt : i < n := by omega
    refine codeAny_builtin PyProof.Rows.F.entry_set_update_loop ?_
    rw [Around.under_plainId PyProof.Rows.F.plain_set_update_loop _]
    show wpAny _ A.in1 (pyNext (.ref I) >>= _) _ _ s
    refine wpAny_bind (W.item i s _ _ lt st fun v s' hP st' m => ?_)
    obtain ⟨t, rfl⟩ := hv i v hP
    have hS' := keepS m hS
    show wpAny _ A.in1 (holding [Value.str (val i) t] (setAdd S (.str (val i) t)) >>= _) _ _ s'
    refine wpAny_bind (wpAny_holding ?_)
    unfold setAdd
    refine wpAny_holding (wpAny_bind ((PySem.strKind prog w).pyHash (k := val i) (by show (val i == val i) = true; simp) ?_))
    have room : (ddn val i).length + 1 < scanBound := by have := ddn_len val i; omega
    refine addS (s := { s' with toks := s'.toks + 1 }) hS' room fun b g sb hS2 => ?_
    rw [← ddn_succ] at hS2
    refine wpAny_pure ⟨plainId_quiet PyProof.Rows.F.plain_set_update_loop _, ih (i + 1) _ (by omega) lt (W.frame _ s' _ _ st' (Nat.le_succ _) fun c hc o e => ?_) hS2 fun s2 m2 z2 => ?_⟩
    · rw [sb.2 c (fun h : c = S => nS (h ▸ hc))]
      exact e
    · refine hR s2 (Moved.trans W.gtrans ((m.mono sub).then_heap (Nat.le_succ _) fun c o hc e => ?_) m2) z2
      rw [sb.2 c (fun h : c = S => hc (by rw [h]; exact List.mem_cons_self))]
      exact e
def fsO (w : World) : Obj := { cls := .type "set", dict := none, data := .set #[] 0 (.fresh 0 0 (!byTx w)) }
theorem fsS (h : Heap) : SetS prog w (h.push (fsO w)) h.objs.size [] :=
  ⟨fsO w, #[], 0, _, Heap.get?_push_size _ rfl, ⟨⟨rfl, rfl, rfl⟩, rfl, fun e he => by simp at he, List.Perm.refl _, rfl, by decide, rfl, fun h => absurd h (by decide)⟩⟩
theorem new_setS (v : Value) {Q : Value → Shared → Prop} (q : Q (.ref s.heap.objs.size) { s with heap := s.heap.push (fsO w) }) : codeAny (model prog w) A (.call (.builtin "set.__new__") ⟨[.type "set", v], []⟩) (wants Q E) s := by
  refine codeAny_of_tree ?_
  show wpAny _ A.in1 (do { checkBuiltinCall "set.__new__" ⟨[.type "set", v], []⟩; again (.builtin "set.__new__" ⟨[.type "set", v], []⟩) }) _ _ s
  refine wpAny_bind (wpAny_of_eq (PySem.F.newCall_set_1 v) (wpAny_pure ⟨plainId_quiet PySem.F.plain_set_new _, codeAny_builtin PySem.F.entry_set_new ?_⟩))
  rw [Around.under_plainId PySem.F.plain_set_new _]; unfold Builtin.«set.__new__» Builtin.Frozenset.newClass
  have sub := sub_set_self; obtain ⟨hp, g, d, tk, os⟩ := s; dsimp only
  wp_walk
  refine wpAny_askSetting (wpAny_pure ?_); dsimp only; simp only [newObj]
  refine wpAny_bind (wpAny_alloc (wpAny_pure (wpAny_pure ?_)))
  exact q
theorem strs_at : ∀ {vs : List Value} {ss : List Str}, StrsAre vs ss → ∀ (i : Nat) (v : Value), vs[i]? = some v → ∃ t, v = .str (ss.getD i ⟨#[]⟩) t
  | _, _, .nil, i, v, h => by simp at h
  | _, _, .cons x t r, 0, v, h => by
    simp at h
    exact ⟨t, h.symm⟩
  | _, _, .cons x t r, i + 1, v, h => by
    simp only [List.getElem?_cons_succ] at h
    obtain ⟨t', e⟩ := strs_at r i v h
    exact ⟨t', by rw [e]; rfl⟩
theorem call_setS {l : Addr} {vs : List Value} {ss : List Str} {Q : Value → Shared → Prop} (hh : A.handled = none) (hl : s.heap.IsList l vs.toArray) (hi : StrsAre vs ss) (hb : vs.length + 1 < scanBound)
    (q : ∀ g tk, SetS prog w g s.heap.objs.size (ddn (fun i => ss.getD i ⟨#[]⟩) vs.length) → (∀ b o, s.heap.get? b = some o → g.get? b = some o) → Q (.ref s.heap.objs.size) { s with heap := g, toks := tk }) :
    wpAny (model prog w) A (call (.type "set") [.ref l]) Q E s := by
  obtain ⟨c, tl, mro⟩ := PySem.F.called_set.mro
  have made := PySem.F.called_set.made
  have sub := PySem.F.called_set.sub
  refine wpAny_call (codeAny_of_tree ?_)
  show wpAny _ _ (callAny (.type "set") _) _ _ _
  refine wpAny_pure ⟨Code.quiet_builtin _ (by decide +kernel), codeAny_builtin PySem.F.entry_type_call ?_⟩
  rw [Around.under_plain (weight_type_call_type "set" [.ref l] []) rfl]
  have z1 := PySem.F.called_set.notType
  have z2 := PySem.F.called_set.canCreate
  have z3 := PySem.F.typeCall_set_1 (.ref l)
  repeat (any_goals (first | assumption | wp_step))
  refine codeAny_mono (new_setS (.ref l) (E := E) (Q := fun v s1 => v = .ref s.heap.objs.size ∧ s1 = { s with heap := s.heap.push (fsO w) }) ⟨rfl, rfl⟩) fun r s1 hr => ?_
  match r, hr with
  | .error e, hr => exact hr
  | .ok (.ret v), hr =>
    obtain ⟨rfl, rfl⟩ := hr
    have gS : (s.heap.push (fsO w)).get? s.heap.objs.size = some (fsO w) := Heap.get?_push_size _ rfl
    have ty : Shared.TypeIs { s with heap := s.heap.push (fsO w) } (.ref s.heap.objs.size) "set" := ⟨_, gS, rfl⟩
    have z4 := PySem.F.called_set.init.lookup
    have z5 := PySem.F.called_set.init.bind (.ref s.heap.objs.size)
    repeat (any_goals (first | assumption | wp_step))
    refine codeAny_mono (codeAny_call_builtin (R := wants (fun r s2 => r = .none ∧ ∃ g tk, s2 = { s with heap := g, toks := tk } ∧ SetS prog w g s.heap.objs.size (ddn (fun i => ss.getD i ⟨#[]⟩) vs.length) ∧ ∀ b o, s.heap.get? b = some o → g.get? b = some o) E)
      PySem.F.called_set.init.plain PySem.F.entry_set_init (check_set_init_1 ty ?_)) fun r2 s2 hr2 => ?_
    · obtain ⟨ol, hol, hcl, nl, hdl⟩ := hl
      obtain ⟨oc, od, odt, osl⟩ := ol
      simp only at hcl hdl
      subst hcl hdl
      have hol1 : (s.heap.push (fsO w)).get? l = some { cls := .type "list", dict := od, data := .seq vs.toArray nl, slots := osl } := Heap.get?_push_of_some _ hol
      have gS1 : (s.heap.push (fsO w)).get? s.heap.objs.size = some { cls := .type "set", dict := none, data := .set #[] 0 (.fresh 0 0 (!byTx w)) } := gS
      have z6 := PySem.F.sub_list_set
      have z7 := PySem.F.sub_list_frozenset
      have z8 : (Value.type "list" == Value.type "dict") = false := by decide
      have hl1 : (s.heap.push (fsO w)).IsList l vs.toArray := ⟨_, hol1, rfl, nl, rfl⟩
      have lt : l < s.heap.objs.size := Heap.lt_size hol
      clear gS hol
      generalize hg : s.heap.push (fsO w) = g0 at *
      unfold Builtin.«set.__init__» noKeywords Builtin.Frozenset.updateFrom
      generalize hPI : pyIter = PI
      wp_walk
      subst hPI
      refine wpAny_pyIter_list hl1 ?_
      refine wpAny_bind (wpAny_runValue ?_)
      have sz : g0.objs.size = s.heap.objs.size + 1 := by rw [← hg]; exact Heap.size_push ..
      have neI : l ≠ g0.objs.size := by rw [sz]; exact Nat.ne_of_lt (Nat.lt_succ_of_lt lt)
      have nf : s.heap.objs.size ∉ [g0.objs.size, l] := by
        rw [sz]
        simp only [List.mem_cons, List.not_mem_nil, or_false, not_or]
        exact ⟨Nat.ne_of_lt (Nat.lt_succ_self _), Nat.ne_of_gt lt⟩
      have hval : ∀ (i : Nat) (v : Value), vs.toArray[i]? = some v → ∃ t, v = .str ((fun i => ss.getD i ⟨#[]⟩) i) t := fun i v hv => strs_at hi i v (by rw [← hv]; simp)
      refine loopS ((Walks.list (by simp [hh]) _ l neI vs.toArray).toS) s.heap.objs.size nf (fun i => ss.getD i ⟨#[]⟩) hval (by simpa using hb) (vs.toArray.size - 0) 0 _ (by omega) (Nat.zero_le _) ⟨⟨_, Heap.get?_push_size _ rfl, rfl, rfl⟩, hl1.push _⟩ ?hS0 ?hR
      case hS0 =>
        obtain ⟨o, es, ep, t, h1, h2⟩ := fsS (prog := prog) (w := w) s.heap
        rw [hg] at h1
        exact ⟨o, es, ep, t, Heap.get?_push_of_some _ h1, h2⟩
      case hR =>
        intro s' m hS'
        obtain ⟨g', gn, dr, tk, os⟩ := s'
        obtain ⟨m1, m2, m3, m4, m5⟩ := m
        dsimp only at m1 m2 m3 m4 m5
        subst m2 m3 m4
        show wpAny _ _ _ _ _ _
        refine wpAny_pure ?_
        show wpAny _ _ (ret Value.none) _ _ _
        refine wpAny_pure ⟨rfl, g', tk, rfl, ?_, fun b o e => m1 b o ?_ (Heap.get?_push_of_some _ ?_)⟩
        · simpa using hS'
        · have hb := Heap.lt_size e
          rw [sz]
          simp only [List.mem_cons, List.not_mem_nil, or_false, not_or]
          exact ⟨Nat.ne_of_lt hb, Nat.ne_of_lt (Nat.lt_succ_of_lt hb)⟩
        · rw [← hg]
          exact Heap.get?_push_of_some _ e
    · match r2, hr2 with
      | .error e, hr2 => exact hr2
      | .ok (.ret v), hr2 =>
        obtain ⟨rfl, g, tk, rfl, h1, h2⟩ := hr2
        repeat (any_goals (first | assumption | wp_step))
        exact q _ _ h1 h2
      | .ok .next, hr2 => exact hr2.elim
      | .ok .brk, hr2 => exact hr2.elim
      | .ok .cont, hr2 => exact hr2.elim
  | .ok .next, hr => exact hr.elim
  | .ok .brk, hr => exact hr.elim
  | .ok .cont, hr => exact hr.elim
end
end Lw
end
section
set_option Elab.async false
set_option linter.all false
set_option maxRecDepth 100000
set_option maxHeartbeats 4000000
namespace Lw
open PySem PySem.Spec PyProof.Rows L2
theorem sl_sit_next : Slot "set_iterator" "__next__" "set_iterator.__next__" := .of (owner := "set_iterator") (n := "__next__") (by rw [typeLookup_type, builtinLookup_eq_fast]; kernel_rfl) (by decide +kernel) (by decide +kernel) (by decide +kernel) (by first | exact .inl (by decide +kernel) | exact .inr (by decide +kernel)) (by rw [isSubtype_type]; kernel_rfl)
theorem en_sit_next : entryFor table "set_iterator.__next__" = some Builtin.«set_iterator.__next__» := entryFor_of_tree (by kernel_rfl)
theorem en_set_iter : entryFor table "set.__iter__" = some Builtin.«frozenset.__iter__» := entryFor_alias (id' := "frozenset.__iter__") (by kernel_rfl) rfl (by decide +kernel) (by kernel_rfl)
def SI (h : Heap) (I : Addr) (f : Value) (i : Nat) (a : Addr) (n ep : Nat) : Prop := ∃ o, h.get? I = some o ∧ o.cls = .type "set_iterator" ∧ o.data = .fields #[f, .int i 0, .ref a, .int n 0, .int ep 0]
theorem SI.mv {h h' : Heap} {I a : Addr} {f : Value} {i n ep : Nat} (x : SI h I f i a n ep) (q : ∀ o, h.get? I = some o → h'.get? I = some o) : SI h' I f i a n ep := by
  obtain ⟨o, e, r⟩ := x
  exact ⟨o, q o e, r⟩
theorem pick_go {α : Type} (nx : Nat → Nat) : ∀ (fuel k : Nat) (left : List α) (out : Array α), left.length = fuel → (pickOrder.go nx fuel k left out).toList.Perm (out.toList ++ left)
  | 0, k, left, out, h => by
    have : left = [] := List.length_eq_zero_iff.mp h
    subst this
    rw [List.append_nil]
    exact List.Perm.refl _
  | fuel + 1, k, left, out, h => by
    have hp : 0 < left.length := by omega
    have hj : nx k % left.length < left.length := Nat.mod_lt _ hp
    have e : left[nx k % left.length]? = some left[nx k % left.length] := List.getElem?_eq_getElem hj
    unfold pickOrder.go
    rw [e]
    dsimp only
    refine (pick_go nx fuel (k + 1) _ _ (by rw [List.length_eraseIdx_of_lt hj, h]; rfl)).trans ?_
    rw [Array.toList_push, List.append_assoc]
    exact (erase_perm left _ _ e).append_left _
theorem pick_perm {α : Type} (nx : Nat → Nat) (xs : Array α) : (pickOrder nx xs).toList.Perm xs.toList := by
  have := pick_go nx xs.size 0 xs.toList #[] (by simp)
  simpa [pickOrder] using this
section
variable {prog : Program} {w : World} {A : Around} {E : Value → Shared → Prop} {s : Shared}
theorem wp_chs {M : Model} {src : Source} {n : Nat} {Q : Nat → Shared → Prop} (hn : n ≠ 0) (q : ∀ i d, i < n → Q i { s with drawn := d }) : wpAny M A (choose src n) Q E s :=
  fun _ _ _ => ⟨hn, q _ _ (Nat.mod_lt _ (Nat.pos_of_ne_zero hn))⟩
theorem draw_perm {M : Model} {α : Type} : ∀ (n : Nat) (xs : List α) (s : Shared) {Q : List α → Shared → Prop}, xs.length = n → (∀ ys d, ys.Perm xs → Q ys { s with drawn := d }) → wpAny M A (drawOrder n xs) Q E s
  | 0, xs, s, Q, h, q => by
    have : xs = [] := List.length_eq_zero_iff.mp h
    subst this
    unfold drawOrder
    exact wpAny_pure (q [] s.drawn (List.Perm.refl _))
  | n + 1, [], s, Q, h, q => by simp at h
  | n + 1, x :: xs, s, Q, h, q => by
    unfold drawOrder
    refine wpAny_bind (wp_chs (by simp) fun i d hi => ?_)
    have e : (x :: xs)[i]? = some (x :: xs)[i] := List.getElem?_eq_getElem hi
    rw [e]
    dsimp only
    refine wpAny_bind (draw_perm n _ _ (by rw [List.length_eraseIdx_of_lt hi, h]; rfl) fun ys d' hp => wpAny_pure ?_)
    exact q _ d' ((hp.cons _).trans (erase_perm _ _ _ e))
theorem nextI_item {I a : Addr} {slot nx i : Nat} {o : Obj} {ss : List Str} {es : Array (Int × Value)} {ep : Nat} {t : SetTable} {x : Value} {Q : Option Value → Shared → Prop} (hit : SI s.heap I (.int slot 0) i a es.size ep) (ho : s.heap.get? a = some o) (S : SetO prog w o ss es ep t)
    (hn : ∀ (Q' : Option (Value × Nat) → Shared → Prop) (E' : Value → Shared → Prop), Q' (some (x, nx)) s → wpAny (model prog w) A.in1 (setNext a slot i ep) Q' E' s)
    (q : ∀ g, SI g I (.int nx 0) (i + 1) a es.size ep → Heap.SameBut I s.heap g → Q (some x) { s with heap := g }) : wpAny (model prog w) A (pyNext (.ref I)) Q E s := by
  obtain ⟨io, e1, c1, d1⟩ := id hit
  have ty : s.TypeIs (.ref I) "set_iterator" := ⟨io, e1, c1⟩
  unfold pyNext
  refine wpAny_bind (wpAny_attempt (wpAny_callSpecial?_slot (name := Str.ofString "__next__") ty sl_sit_next (wpAny_call_entry sl_sit_next ty en_sit_next ?_)))
  unfold Builtin.«set_iterator.__next__»
  refine wpAny_bind (m := slotArgs "__next__" 0 _) (wpAny_pure ?_)
  refine wpAny_bind (wpAny_fieldsOf e1 d1 ?_)
  dsimp only
  refine wpAny_bind (wpAny_setEntries_of ho S.dat S.fit ?_)
  simp only [bne_self_eq_false, Bool.false_eq_true, if_false, Int.toNat_natCast]
  refine wpAny_bind (hn _ _ ?_)
  dsimp only
  refine wpAny_bind (wpAny_setField e1 d1 (by simp) ?_)
  have g1 := Heap.get?_update_self (Obj.mapFields (·.setIfInBounds 0 (rawInt (nx : Int)))) e1 (Obj.isFreed_of_fields (Obj.data_mapFields d1 _))
  have d2 := Obj.data_mapFields d1 (·.setIfInBounds 0 (rawInt (nx : Int)))
  refine wpAny_bind (wpAny_setField g1 d2 (by simp) ?_)
  refine wpAny_pure ⟨_, rfl, wpAny_pure (q _ ?_ ((Heap.SameBut.update ..).trans (Heap.SameBut.update ..)))⟩
  refine ⟨_, Heap.get?_update_self _ g1 (Obj.isFreed_of_fields (Obj.data_mapFields d2 _)), (Obj.cls_mapFields ..).trans ((Obj.cls_mapFields ..).trans c1), ?_⟩
  rw [Obj.data_mapFields d2]
  simp [rawInt]
theorem nextI_end {I a : Addr} {slot i : Nat} {o : Obj} {ss : List Str} {es : Array (Int × Value)} {ep : Nat} {t : SetTable} {Q : Option Value → Shared → Prop} (hh : A.handled = none) (hit : SI s.heap I (.int slot 0) i a es.size ep) (ho : s.heap.get? a = some o) (S : SetO prog w o ss es ep t)
    (hn : ∀ (Q' : Option (Value × Nat) → Shared → Prop) (E' : Value → Shared → Prop), Q' none s → wpAny (model prog w) A.in1 (setNext a slot i ep) Q' E' s)
    (q : ∀ g, Heap.ExtBut I s.heap g → Q none { s with heap := g }) : wpAny (model prog w) A (pyNext (.ref I)) Q E s := by
  obtain ⟨io, e1, c1, d1⟩ := id hit
  have ty : s.TypeIs (.ref I) "set_iterator" := ⟨io, e1, c1⟩
  unfold pyNext
  refine wpAny_bind (wpAny_attempt (wpAny_callSpecial?_slot (name := Str.ofString "__next__") ty sl_sit_next (wpAny_call_entry sl_sit_next ty en_sit_next ?_)))
  unfold Builtin.«set_iterator.__next__»
  refine wpAny_bind (m := slotArgs "__next__" 0 _) (wpAny_pure ?_)
  refine wpAny_bind (wpAny_fieldsOf e1 d1 ?_)
  dsimp only
  refine wpAny_bind (wpAny_setEntries_of ho S.dat S.fit ?_)
  simp only [bne_self_eq_false, Bool.false_eq_true, if_false, Int.toNat_natCast]
  refine wpAny_bind (hn _ _ ?_)
  dsimp only
  refine wpAny_bind (wpAny_setField e1 d1 (by simp) ?_)
  show wpAny _ _ (newExc (.type "StopIteration") [] >>= _) _ _ _; refine wpAny_bind ?_; simp only [newExc, newTuple]
  refine wpAny_bind (wpAny_newObj_type ?_ (by size_fits)); refine wpAny_bind (m := firstArgMember _ _) (wpAny_of_eq (a := Value.none) (by first | rfl | (simp only [firstArgMember]; rfl)) ?_)
  refine wpAny_newObj_type ?_ (by size_fits); simp only [raiseNew]; refine wpAny_bind (wpAny_handled ?_); rw [show A.in1.handled = none from hh]
  refine wpAny_bind (wpAny_pure (wpAny_throw ?_))
  exact wpAny_bind (wpAny_isInstance (T := "StopIteration") (b := true) ⟨_, Heap.get?_push_size _ rfl, rfl⟩ isSubtype_stop (wpAny_pure (q _ (((Heap.SameBut.update ..).extBut.push _).push _))))
theorem nextD_item {I a T : Addr} {i p : Nat} {o oT : Obj} {ss : List Str} {es : Array (Int × Value)} {ep nT : Nat} {t : SetTable} {vs : Array Value} {x : Int × Value} {Q : Option Value → Shared → Prop} (hit : SI s.heap I (.ref T) i a es.size ep) (ho : s.heap.get? a = some o) (S : SetO prog w o ss es ep t)
    (hT : s.heap.get? T = some oT) (dT : oT.data = .seq vs nT) (hv : vs[i]? = some (.int p 0)) (hx : es[p]? = some x)
    (q : ∀ g, SI g I (.ref T) (i + 1) a es.size ep → Heap.SameBut I s.heap g → Q (some x.2) { s with heap := g }) : wpAny (model prog w) A (pyNext (.ref I)) Q E s := by
  obtain ⟨io, e1, c1, d1⟩ := id hit
  have ty : s.TypeIs (.ref I) "set_iterator" := ⟨io, e1, c1⟩
  unfold pyNext
  refine wpAny_bind (wpAny_attempt (wpAny_callSpecial?_slot (name := Str.ofString "__next__") ty sl_sit_next (wpAny_call_entry sl_sit_next ty en_sit_next ?_)))
  unfold Builtin.«set_iterator.__next__»
  refine wpAny_bind (m := slotArgs "__next__" 0 _) (wpAny_pure ?_)
  refine wpAny_bind (wpAny_fieldsOf e1 d1 ?_)
  dsimp only
  refine wpAny_bind (wpAny_setEntries_of ho S.dat S.fit ?_)
  simp only [bne_self_eq_false, Bool.false_eq_true, if_false, Int.toNat_natCast]
  refine wpAny_bind (wpAny_seqItems hT dT ?_)
  dsimp only
  rw [hv]
  dsimp only
  simp only [Int.toNat_natCast]
  unfold setNextDrawn
  refine wpAny_bind (wpAny_bind (wpAny_setState_of ho S.dat S.fit ?_))
  dsimp only
  simp only [bne_self_eq_false, Bool.false_eq_true, if_false]
  rw [hx]
  dsimp only
  refine wpAny_pure ?_
  refine wpAny_bind (wpAny_setField e1 d1 (by simp) (wpAny_pure ⟨_, rfl, wpAny_pure (q _ ?_ (Heap.SameBut.update ..))⟩))
  refine ⟨_, Heap.get?_update_self _ e1 (Obj.isFreed_of_fields (Obj.data_mapFields d1 _)), (Obj.cls_mapFields ..).trans c1, ?_⟩
  rw [Obj.data_mapFields d1]
  simp [rawInt]
theorem nextD_end {I a T : Addr} {i : Nat} {o oT : Obj} {ss : List Str} {es : Array (Int × Value)} {ep nT : Nat} {t : SetTable} {vs : Array Value} {Q : Option Value → Shared → Prop} (hh : A.handled = none) (hit : SI s.heap I (.ref T) i a es.size ep) (ho : s.heap.get? a = some o) (S : SetO prog w o ss es ep t)
    (hT : s.heap.get? T = some oT) (dT : oT.data = .seq vs nT) (hv : vs[i]? = none)
    (q : ∀ g, Heap.ExtBut I s.heap g → Q none { s with heap := g }) : wpAny (model prog w) A (pyNext (.ref I)) Q E s := by
  obtain ⟨io, e1, c1, d1⟩ := id hit
  have ty : s.TypeIs (.ref I) "set_iterator" := ⟨io, e1, c1⟩
  unfold pyNext
  refine wpAny_bind (wpAny_attempt (wpAny_callSpecial?_slot (name := Str.ofString "__next__") ty sl_sit_next (wpAny_call_entry sl_sit_next ty en_sit_next ?_)))
  unfold Builtin.«set_iterator.__next__»
  refine wpAny_bind (m := slotArgs "__next__" 0 _) (wpAny_pure ?_)
  refine wpAny_bind (wpAny_fieldsOf e1 d1 ?_)
  dsimp only
  refine wpAny_bind (wpAny_setEntries_of ho S.dat S.fit ?_)
  simp only [bne_self_eq_false, Bool.false_eq_true, if_false, Int.toNat_natCast]
  refine wpAny_bind (wpAny_seqItems hT dT ?_)
  dsimp only
  rw [hv]
  dsimp only
  refine wpAny_bind (wpAny_setField e1 d1 (by simp) ?_)
  have g1 := Heap.get?_update_self (Obj.mapFields (·.setIfInBounds 0 (rawInt 0))) e1 (Obj.isFreed_of_fields (Obj.data_mapFields d1 _))
  have d2 := Obj.data_mapFields d1 (·.setIfInBounds 0 (rawInt 0))
  refine wpAny_bind (wpAny_setField g1 d2 (by simp) ?_)
  show wpAny _ _ (newExc (.type "StopIteration") [] >>= _) _ _ _; refine wpAny_bind ?_; simp only [newExc, newTuple]
  refine wpAny_bind (wpAny_newObj_type ?_ (by size_fits)); refine wpAny_bind (m := firstArgMember _ _) (wpAny_of_eq (a := Value.none) (by first | rfl | (simp only [firstArgMember]; rfl)) ?_)
  refine wpAny_newObj_type ?_ (by size_fits); simp only [raiseNew]; refine wpAny_bind (wpAny_handled ?_); rw [show A.in1.handled = none from hh]
  refine wpAny_bind (wpAny_pure (wpAny_throw ?_))
  exact wpAny_bind (wpAny_isInstance (T := "StopIteration") (b := true) ⟨_, Heap.get?_push_size _ rfl, rfl⟩ isSubtype_stop (wpAny_pure (q _ ((((Heap.SameBut.update ..).trans (Heap.SameBut.update ..)).extBut.push _).push _))))
theorem next_tx {a : Addr} {slot i : Nat} {o : Obj} {ss : List Str} {es : Array (Int × Value)} {ep : Nat} {t : SetTable} {Q : Option (Value × Nat) → Shared → Prop} (ho : s.heap.get? a = some o) (S : SetO prog w o ss es ep t) (hb : byTx w = true)
    (q : Q (((pickOrder (w.params.setOrder a ep) es)[i]?).map fun e => (e.2, slot)) s) : wpAny (model prog w) A (setNext a slot i ep) Q E s := by
  have hb' : (model prog w).w.params.followText "set-order" = true := hb
  unfold setNext
  refine wpAny_bind (wpAny_setState_of ho S.dat S.fit ?_)
  dsimp only
  unfold setsByText
  refine wpAny_bind (wpAny_bind (wpAny_askSetting (wpAny_pure ?_)))
  dsimp only
  rw [hb']
  simp only [↓reduceIte, bne_self_eq_false, Bool.false_eq_true, if_false]
  unfold setWalk
  refine wpAny_bind (wpAny_bind (wpAny_setState_of ho S.dat S.fit ?_))
  dsimp only
  unfold setsByText
  refine wpAny_bind (wpAny_bind (wpAny_askSetting (wpAny_pure ?_)))
  dsimp only
  rw [hb']
  simp only [↓reduceIte]
  refine wpAny_bind (wpAny_askSetting (wpAny_pure (wpAny_pure ?_)))
  exact q
theorem next_few {a : Addr} {slot i : Nat} {o : Obj} {ss : List Str} {es : Array (Int × Value)} {ep : Nat} {t : SetTable} {Q : Option (Value × Nat) → Shared → Prop} (ho : s.heap.get? a = some o) (S : SetO prog w o ss es ep t) (hb : byTx w = false) (hz : es.size ≤ 1)
    (q : Q (match es[SetTable.below t.place slot]?, t.place[SetTable.below t.place slot]? with | some (_, x), some j => some (x, j + 1) | _, _ => none) s) : wpAny (model prog w) A (setNext a slot i ep) Q E s := by
  have hb' : (model prog w).w.params.followText "set-order" = false := hb
  have hl : t.led = true := by rw [S.led, hb]; rfl
  unfold setNext
  refine wpAny_bind (wpAny_setState_of ho S.dat S.fit ?_)
  dsimp only
  unfold setsByText
  refine wpAny_bind (wpAny_bind (wpAny_askSetting (wpAny_pure ?_)))
  dsimp only
  rw [hb']
  simp only [Bool.false_eq_true, if_false]
  split
  · rename_i h
    have h' : (!t.plain && decide (es.size > 1)) = true := h
    have : decide (es.size > 1) = false := decide_eq_false (by omega)
    rw [this, Bool.and_false] at h'
    cases h'
  · refine wpAny_bind ?_
    show wpAny _ _ (if (!t.led && !es.isEmpty) = true then _ else _) _ _ _
    rw [hl, if_neg (by simp)]
    exact wpAny_pure (wpAny_pure q)
theorem below0 (p : Nat) : SetTable.below #[p] 0 = 0 := by
  unfold SetTable.below
  simp [SetTable.below.go]
theorem below1 (p : Nat) : SetTable.below #[p] (p + 1) = 1 := by
  unfold SetTable.below
  simp [SetTable.below.go]
theorem sl_sit_iter : Slot "set_iterator" "__iter__" "set_iterator.__iter__" := .of (owner := "set_iterator") (n := "__iter__") (by rw [typeLookup_type, builtinLookup_eq_fast]; kernel_rfl) (by decide +kernel) (by decide +kernel) (by decide +kernel) (by first | exact .inl (by decide +kernel) | exact .inr (by decide +kernel)) (by rw [isSubtype_type]; kernel_rfl)
theorem en_sit_iter : entryFor table "set_iterator.__iter__" = some Builtin.«dict_keyiterator.__iter__» := entryFor_alias (id' := "dict_keyiterator.__iter__") (by kernel_rfl) rfl (by decide +kernel) (by kernel_rfl)
theorem self_sit {I a : Addr} {f : Value} {i n ep : Nat} {Q : Value → Shared → Prop} (hit : SI s.heap I f i a n ep) (q : Q (.ref I) s) : wpAny (model prog w) A (pyIter (.ref I)) Q E s := by
  obtain ⟨io, e1, c1, d1⟩ := hit
  have ty : s.TypeIs (.ref I) "set_iterator" := ⟨io, e1, c1⟩
  refine wpAny_pyIter_slot ty sl_sit_iter (wpAny_call_entry sl_sit_iter ty en_sit_iter ?_)
  show wpAny _ _ (ret (.ref I)) _ _ s
  exact wpAny_pure ⟨_, rfl, "set_iterator", _, ty, sl_sit_next.lookup, q⟩
theorem sb_moved {I : Addr} {g : Heap} (sb : Heap.ExtBut I s.heap g) : Moved [I] (fun a b => b = a) s { s with heap := g } :=
  ⟨fun b o hb e => sb b o (fun z => hb (by rw [z]; exact List.mem_cons_self)) e, rfl, rfl, rfl, Nat.le_refl _⟩
theorem walk_tx {I a : Addr} {o : Obj} {ss : List Str} {es : Array (Int × Value)} {ep : Nat} {t : SetTable} (S : SetO prog w o ss es ep t) (hb : byTx w = true) (ne : a ≠ I) {B : Around} (hh : B.handled = none) :
    WalksS prog w B I [I, a] [I] (fun a b => b = a) es.size (fun i v => ((pickOrder (w.params.setOrder a ep) es).toList.map (·.2))[i]? = some v) (fun i s => SI s.heap I (.int (0 : Nat) 0) i a es.size ep ∧ s.heap.get? a = some o) where
  sub := fun b hb => by simp at hb; simp [hb]
  grefl := fun _ => rfl
  gtrans := fun _ _ _ h1 h2 => h2.trans h1
  frame := fun i s h' _ st _ k => ⟨st.1.mv fun o e => k I (by simp) o e, k a (by simp) _ st.2⟩
  item := fun i s Q E hi st hQ => by
    have hz : (pickOrder (w.params.setOrder a ep) es).size = es.size := by rw [← Array.length_toList, (pick_perm _ es).length_eq, Array.length_toList]
    have e : (pickOrder (w.params.setOrder a ep) es)[i]? = some (pickOrder (w.params.setOrder a ep) es)[i] := Array.getElem?_eq_getElem (by omega)
    refine nextI_item (slot := 0) (nx := 0) st.1 st.2 S (fun Q' E' h => next_tx st.2 S hb (by rw [e]; exact h)) fun g hg sb => hQ _ _ ?_ ⟨hg, sb.extBut a _ ne st.2⟩ (sb_moved sb.extBut)
    rw [List.getElem?_map, Array.getElem?_toList, e]
    rfl
  done := fun s Q E st hQ => by
    have hz : (pickOrder (w.params.setOrder a ep) es).size = es.size := by rw [← Array.length_toList, (pick_perm _ es).length_eq, Array.length_toList]
    have e : (pickOrder (w.params.setOrder a ep) es)[es.size]? = none := Array.getElem?_eq_none (by omega)
    exact nextI_end hh st.1 st.2 S (fun Q' E' h => next_tx st.2 S hb (by rw [e]; exact h)) fun g sb => hQ _ (sb_moved sb)
  self := fun i s Q E st hQ => self_sit st.1 hQ
theorem walk_dr {I a T : Addr} {o oT : Obj} {ss : List Str} {es : Array (Int × Value)} {ep nT : Nat} {t : SetTable} (S : SetO prog w o ss es ep t) (ps : List Nat) (hp : ∀ p ∈ ps, p < es.size) (hl : ps.length = es.size) (dT : oT.data = .seq (ps.map fun (p : Nat) => rawInt p).toArray nT) (ne : a ≠ I) (neT : T ≠ I) {B : Around} (hh : B.handled = none) :
    WalksS prog w B I [I, a, T] [I] (fun a b => b = a) es.size (fun i v => (ps.map fun p => ((es[p]?).map (·.2)).getD .none)[i]? = some v) (fun i s => SI s.heap I (.ref T) i a es.size ep ∧ s.heap.get? a = some o ∧ s.heap.get? T = some oT) where
  sub := fun b hb => by simp at hb; simp [hb]
  grefl := fun _ => rfl
  gtrans := fun _ _ _ h1 h2 => h2.trans h1
  frame := fun i s h' _ st _ k => ⟨st.1.mv fun o e => k I (by simp) o e, k a (by simp) _ st.2.1, k T (by simp) _ st.2.2⟩
  item := fun i s Q E hi st hQ => by
    have hi' : i < ps.length := by omega
    have h1 : ((ps.map fun (p : Nat) => rawInt p).toArray)[i]? = some (.int (ps[i] : Nat) 0) := by
      rw [List.getElem?_toArray, List.getElem?_map, List.getElem?_eq_getElem hi']
      rfl
    have h2 := hp ps[i] (List.getElem_mem hi')
    have h3 : es[ps[i]]? = some es[ps[i]] := Array.getElem?_eq_getElem h2
    refine nextD_item st.1 st.2.1 S st.2.2 dT h1 h3 fun g hg sb => hQ _ _ ?_ ⟨hg, sb.extBut a _ ne st.2.1, sb.extBut T _ neT st.2.2⟩ (sb_moved sb.extBut)
    rw [List.getElem?_map, List.getElem?_eq_getElem hi']
    simp [h3]
  done := fun s Q E st hQ => by
    have h1 : ((ps.map fun (p : Nat) => rawInt p).toArray)[es.size]? = none := by
      rw [List.getElem?_toArray, List.getElem?_map, List.getElem?_eq_none (by omega)]
      rfl
    exact nextD_end hh st.1 st.2.1 S st.2.2 dT h1 fun g sb => hQ _ (sb_moved sb)
  self := fun i s Q E st hQ => self_sit st.1 hQ
theorem walk_few {I a : Addr} {o : Obj} {ss : List Str} {es : Array (Int × Value)} {ep : Nat} {t : SetTable} (S : SetO prog w o ss es ep t) (hb : byTx w = false) (hz : es.size ≤ 1) (ne : a ≠ I) {B : Around} (hh : B.handled = none) :
    WalksS prog w B I [I, a] [I] (fun a b => b = a) es.size (fun i v => (es.toList.map (·.2))[i]? = some v) (fun i s => (∃ slot : Nat, SI s.heap I (.int slot 0) i a es.size ep ∧ (i = 0 → slot = 0) ∧ (i = 1 → ∀ p, t.place = #[p] → slot = p + 1)) ∧ s.heap.get? a = some o) where
  sub := fun b hb => by simp at hb; simp [hb]
  grefl := fun _ => rfl
  gtrans := fun _ _ _ h1 h2 => h2.trans h1
  frame := fun i s h' _ st _ k => by
    obtain ⟨⟨slot, st, r⟩, st2⟩ := st
    exact ⟨⟨slot, st.mv fun o e => k I (by simp) o e, r⟩, k a (by simp) _ st2⟩
  item := fun i s Q E hi st hQ => by
    obtain ⟨⟨slot, st, r, _⟩, st2⟩ := st
    have i0 : i = 0 := by omega
    have z1 : es.size = 1 := by omega
    subst i0
    have hs := r rfl
    subst hs
    obtain ⟨e, he⟩ : ∃ e, es = #[e] := Array.size_eq_one_iff.mp z1
    have pz : t.place.size = 1 := by
      have := S.fit
      simp only [SetTable.fits, Bool.and_eq_true, beq_iff_eq] at this
      rw [this.1, z1]
    obtain ⟨p, hp⟩ : ∃ p, t.place = #[p] := Array.size_eq_one_iff.mp pz
    refine nextI_item (slot := 0) (nx := p + 1) (x := e.2) st st2 S (fun Q' E' h => next_few st2 S hb hz ?_) fun g hg sb => hQ _ _ ?_ ⟨⟨p + 1, hg, fun z => absurd z (by decide), fun _ p' hp' => ?_⟩, sb.extBut a _ ne st2⟩ (sb_moved sb.extBut)
    · rw [hp, below0, he]
      exact h
    · rw [he]
      rfl
    · rw [hp] at hp'
      cases hp'
      rfl
  done := fun s Q E st hQ => by
    obtain ⟨⟨slot, st, r0, r1⟩, st2⟩ := st
    refine nextI_end hh st st2 S (fun Q' E' h => next_few st2 S hb hz ?_) fun g sb => hQ _ (sb_moved sb)
    have : es.size = 0 ∨ es.size = 1 := by omega
    rcases this with z | z
    · have e0 : es[SetTable.below t.place slot]? = none := Array.getElem?_eq_none (by omega)
      rw [e0]
      exact h
    · have pz : t.place.size = 1 := by
        have := S.fit
        simp only [SetTable.fits, Bool.and_eq_true, beq_iff_eq] at this
        rw [this.1, z]
      obtain ⟨p, hp⟩ : ∃ p, t.place = #[p] := Array.size_eq_one_iff.mp pz
      have hs := r1 z p hp
      subst hs
      have e0 : es[SetTable.below t.place (p + 1)]? = none := by
        rw [hp, below1]
        exact Array.getElem?_eq_none (by omega)
      rw [e0]
      exact h
  self := fun i s Q E st hQ => by
    obtain ⟨⟨slot, st, _⟩, _⟩ := st
    exact self_sit st hQ
theorem strs_el {o : Obj} {ss : List Str} {es : Array (Int × Value)} {ep : Nat} {t : SetTable} (S : SetO prog w o ss es ep t) {e : Int × Value} (h : e ∈ es.toList) : ∃ x tk, e.2 = .str x tk := by
  obtain ⟨⟨k, hk, _⟩, _⟩ := S.el e h
  obtain ⟨tk, z⟩ := Value.isStrOf_shape hk
  exact ⟨k, tk, z⟩
theorem iterS {a : Addr} {o : Obj} {ss : List Str} {es : Array (Int × Value)} {ep : Nat} {t : SetTable} {Q : Value → Shared → Prop} (ho : s.heap.get? a = some o) (S : SetO prog w o ss es ep t)
    (q : ∀ (I : Addr) (g : Heap) (d : Drawn) (xs : List Value) (fp : List Addr) (St : Nat → Shared → Prop), (∀ b o, s.heap.get? b = some o → g.get? b = some o) → s.heap.objs.size ≤ I → I ∈ fp → (∀ b ∈ fp, b = a ∨ s.heap.objs.size ≤ b ∧ b < g.objs.size) → (xs.map strOf).Perm ss →
      (∀ v ∈ xs, ∃ x tk, v = .str x tk) → xs.length = es.size → (∀ B : Around, B.handled = none → WalksS prog w B I fp [I] (fun a b => b = a) es.size (fun i v => xs[i]? = some v) St) → St 0 { s with heap := g, drawn := d } → Q (.ref I) { s with heap := g, drawn := d }) :
    wpAny (model prog w) A (pyIter (.ref a)) Q E s := by
  have ty : s.TypeIs (.ref a) "set" := ⟨o, ho, S.ex.1⟩
  have la : a < s.heap.objs.size := Heap.lt_size ho
  refine wpAny_pyIter_slot ty PySem.F.slot_set_iter (wpAny_call_entry PySem.F.slot_set_iter ty en_set_iter ?_ (PySem.F.args_set_iter_1 _))
  unfold Builtin.«frozenset.__iter__» Builtin.Frozenset.slot0
  refine wpAny_bind (wpAny_bind (m := slotArgs "__iter__" 0 _) (wpAny_pure (wpAny_pure ?_)))
  unfold Builtin.Frozenset.sizeOf
  refine wpAny_bind (wpAny_bind (wpAny_setEntries_of ho S.dat S.fit (wpAny_pure ?_)))
  unfold setDrawn
  refine wpAny_bind (wpAny_bind (wpAny_setState_of ho S.dat S.fit ?_))
  dsimp only
  unfold setsByText
  refine wpAny_bind (wpAny_bind (wpAny_askSetting (wpAny_pure ?_)))
  dsimp only
  refine wpAny_pure ?_
  split
  · rename_i hc
    have hc' : (!byTx w && (!t.plain && decide (es.size > 1))) = true := hc
    have hb : byTx w = false := by
      cases h : byTx w with
      | false => rfl
      | true => rw [h] at hc'; simp at hc'
    have h1 : 1 < es.size := by
      have : decide (es.size > 1) = true := by
        cases h : decide (es.size > 1) with
        | true => rfl
        | false => rw [h] at hc'; simp at hc'
      exact of_decide_eq_true this
    refine wpAny_bind (draw_perm es.size _ s (by simp) fun ps d hp => ?_)
    have hl : ps.length = es.size := by rw [hp.length_eq, List.length_range]
    have hlt : ∀ p ∈ ps, p < es.size := fun p h => List.mem_range.mp (hp.mem_iff.mp h)
    have hs : es.size ≤ sizeLine := fits_of_scanBound S.bd
    refine wpAny_bind (wpAny_newTuple ?_ (by rw [List.length_map, hl]; exact hs))
    have ho1 : (s.heap.push { cls := .type "tuple", data := .seq (ps.map fun (p : Nat) => rawInt p).toArray }).get? a = some o := Heap.get?_push_of_some _ ho
    refine wpAny_bind (wpAny_setEpoch_of (s := { s with heap := _, drawn := d }) ho1 S.dat S.fit ?_)
    refine wpAny_bind (wpAny_newObj_type ?_ (by size_fits))
    have hT : (s.heap.push { cls := .type "tuple", data := .seq (ps.map fun (p : Nat) => rawInt p).toArray }).get? s.heap.objs.size = some _ := Heap.get?_push_size _ rfl
    have e1 : (s.heap.push { cls := .type "tuple", data := .seq (ps.map fun (p : Nat) => rawInt p).toArray }).objs.size = s.heap.objs.size + 1 := Heap.size_push ..
    refine wpAny_pure ⟨_, rfl, "set_iterator", _, ⟨_, Heap.get?_push_size _ rfl, rfl⟩, sl_sit_next.lookup, ?_⟩
    have neA : a ≠ (s.heap.push { cls := .type "tuple", data := .seq (ps.map fun (p : Nat) => rawInt p).toArray }).objs.size := by rw [e1]; exact Nat.ne_of_lt (Nat.lt_succ_of_lt la)
    have neT : s.heap.objs.size ≠ (s.heap.push { cls := .type "tuple", data := .seq (ps.map fun (p : Nat) => rawInt p).toArray }).objs.size := by rw [e1]; exact Nat.ne_of_lt (Nat.lt_succ_self _)
    refine q _ _ d (ps.map fun p => ((es[p]?).map (·.2)).getD .none) [_, a, s.heap.objs.size] _ (fun b o e => Heap.get?_push_of_some _ (Heap.get?_push_of_some _ e)) (by simp only [e1]; omega) List.mem_cons_self ?_ ?_ ?_ (by rw [List.length_map, hl]) (fun B hh => walk_dr S ps hlt hl rfl neA neT hh) ⟨⟨_, Heap.get?_push_size _ rfl, rfl, rfl⟩, Heap.get?_push_of_some _ ho1, Heap.get?_push_of_some _ hT⟩
    · intro b hb
      simp only [List.mem_cons, List.not_mem_nil, or_false] at hb
      rcases hb with rfl | rfl | rfl
      · exact .inr ⟨by rw [e1]; exact Nat.le_succ _, by simp only [Heap.size_push]; exact Nat.lt_succ_self _⟩
      · exact .inl rfl
      · exact .inr ⟨Nat.le_refl _, by rw [Heap.size_push, e1]; exact Nat.lt_succ_of_lt (Nat.lt_succ_self _)⟩
    · have r : ((List.range es.size).map fun p => ((es[p]?).map (·.2)).getD .none) = es.toList.map (·.2) := by
        apply List.ext_getElem?
        intro i
        simp only [List.getElem?_map]
        by_cases hi : i < es.size
        · simp [hi]
        · simp [hi]
      have := ((hp.map fun p => ((es[p]?).map (·.2)).getD .none).map strOf)
      rw [r] at this
      exact this.trans (by rw [List.map_map]; exact S.pm)
    · intro v hv
      obtain ⟨p, h, rfl⟩ := List.mem_map.mp hv
      have hp' := hlt p h
      obtain ⟨x, tk, z⟩ := strs_el S (e := es[p]) (by simp)
      exact ⟨x, tk, by simp [hp', z]⟩
  · rename_i hc
    have hc' : ¬ (!byTx w && (!t.plain && decide (es.size > 1))) = true := hc
    refine wpAny_bind (wpAny_pure (wpAny_bind (wpAny_setEpoch_of ho S.dat S.fit ?_)))
    refine wpAny_bind (wpAny_newObj_type ?_ (by size_fits))
    refine wpAny_pure ⟨_, rfl, "set_iterator", _, ⟨_, Heap.get?_push_size _ rfl, rfl⟩, sl_sit_next.lookup, ?_⟩
    have keep : ∀ {ob : Obj} (b : Addr) (o : Obj), s.heap.get? b = some o → (s.heap.push ob).get? b = some o := fun b o e => Heap.get?_push_of_some _ e
    have fpk : ∀ {ob : Obj} (b : Addr), b ∈ [s.heap.objs.size, a] → b = a ∨ s.heap.objs.size ≤ b ∧ b < (s.heap.push ob).objs.size := fun b hb => by
      simp only [List.mem_cons, List.not_mem_nil, or_false] at hb
      rcases hb with rfl | rfl
      · exact .inr ⟨Nat.le_refl _, by rw [Heap.size_push]; exact Nat.lt_succ_self _⟩
      · exact .inl rfl
    cases hb : byTx w with
    | true =>
      refine q _ _ s.drawn ((pickOrder (w.params.setOrder a ep) es).toList.map (·.2)) [_, a] _ keep (Nat.le_refl _) List.mem_cons_self fpk ?_ ?_ ?_ (fun B hh => walk_tx S hb (Nat.ne_of_lt la) hh) ⟨⟨_, Heap.get?_push_size _ rfl, rfl, rfl⟩, Heap.get?_push_of_some _ ho⟩
      · rw [List.map_map]
        exact ((pick_perm _ es).map tx).trans S.pm
      · intro v hv
        obtain ⟨e, h, rfl⟩ := List.mem_map.mp hv
        exact strs_el S ((pick_perm _ es).mem_iff.mp h)
      · rw [List.length_map, (pick_perm _ es).length_eq, Array.length_toList]
    | false =>
      have hz : es.size ≤ 1 := by
        refine Nat.le_of_not_lt fun h => hc' ?_
        rw [hb, S.pl (by omega)]
        simpa using h
      refine q _ _ s.drawn (es.toList.map (·.2)) [_, a] _ keep (Nat.le_refl _) List.mem_cons_self fpk ?_ ?_ (by simp) (fun B hh => walk_few S hb hz (Nat.ne_of_lt la) hh) ⟨⟨0, ⟨_, Heap.get?_push_size _ rfl, rfl, rfl⟩, fun _ => rfl, fun h => absurd h (by decide)⟩, Heap.get?_push_of_some _ ho⟩
      · rw [List.map_map]
        exact S.pm
      · intro v hv
        obtain ⟨e, h, rfl⟩ := List.mem_map.mp hv
        exact strs_el S h
theorem collectS {a : Addr} {o : Obj} {ss : List Str} {es : Array (Int × Value)} {ep : Nat} {t : SetTable} {Q : List Value → Shared → Prop} (hh : A.handled = none) (ho : s.heap.get? a = some o) (S : SetO prog w o ss es ep t)
    (q : ∀ xs g d tk, (∀ b o, s.heap.get? b = some o → g.get? b = some o) → s.heap.objs.size < g.objs.size → (xs.map strOf).Perm ss → (∀ v ∈ xs, ∃ x tk, v = .str x tk) → Q xs { s with heap := g, drawn := d, toks := tk }) : wpAny (model prog w) A (collect (.ref a)) Q E s := by
  have la : a < s.heap.objs.size := Heap.lt_size ho
  have hs : es.size ≤ sizeLine := fits_of_scanBound S.bd
  unfold collect
  refine wpAny_bind (wpAny_runValue (codeAny_builtin PySem.F.entry_proto_collect ?_))
  rw [Around.under_plainId PySem.F.plain_proto_collect _]
  show wpAny _ A.in1 (newList [] >>= fun l => again (.builtin "list.__iadd__" ⟨[l, .ref a], []⟩)) _ _ s
  refine wpAny_bind (wpAny_newObj_type (wpAny_pure ⟨plainId_quiet PySem.F.plain_list_iadd _, codeAny_builtin PySem.F.entry_list_iadd ?_⟩))
  rw [Around.under_plainId PySem.F.plain_list_iadd _]
  show wpAny _ A.in1 (Builtin.List.listExtendWith (.ref s.heap.objs.size) (.ref a) (.ref s.heap.objs.size)) _ _ _
  generalize hob : ({ cls := .type "list", data := .seq ([] : List Value).toArray } : Obj) = ob
  have hL : (s.heap.push ob).get? s.heap.objs.size = some ob := Heap.get?_push_size _ (by rw [← hob]; rfl)
  have ho1 : (s.heap.push ob).get? a = some o := Heap.get?_push_of_some _ ho
  have sz1 : (s.heap.push ob).objs.size = s.heap.objs.size + 1 := Heap.size_push ..
  unfold Builtin.List.listExtendWith
  refine wpAny_bind (wpAny_typeOf (T := "set") ⟨o, ho1, S.ex.1⟩ ?_)
  have h1 : Builtin.List.listSameRef (.ref s.heap.objs.size) (.ref a) = false := by simp [Builtin.List.listSameRef, Nat.ne_of_gt la]
  have h2 : (Value.type "set" == Value.type "list") = false := by decide
  have h3 : (Value.type "set" == Value.type "tuple") = false := by decide
  simp only [h1, h2, h3, Bool.or_false, Bool.false_eq_true, if_false]
  refine wpAny_bind (iterS (s := { s with heap := s.heap.push ob }) ho1 S fun I g d xs fp St keep lI mI hfp pm hst len W st => ?_)
  refine wpAny_bind (wpAny_holding ?_)
  unfold Builtin.List.listLengthHint
  have ty : Shared.TypeIs { s with heap := g, drawn := d } (.ref a) "set" := ⟨o, keep _ _ ho1, S.ex.1⟩
  refine wpAny_bind (wpAny_specialOf ty PySem.F.slot_set_len.lookup ?_)
  dsimp only
  rw [show splitId "set.__len__" = some ("set", "__len__") by kernel_rfl]
  dsimp only
  refine wpAny_bind (wpAny_isInstance ty sub_set_self ?_)
  simp only [Bool.not_true, Bool.false_eq_true, if_false]
  refine wpAny_ite ?_
  rw [if_pos (by decide +kernel)]
  refine wpAny_bind (wpAny_typeOf ty ?_)
  refine wpAny_pure ?_
  refine wpAny_ite ?_
  rw [if_pos (by decide +kernel)]
  refine wpAny_bind (wpAny_rule (wpAny_bind ?_))
  have hLg : g.get? s.heap.objs.size = some ob := keep _ _ hL
  rw [← hob] at hLg
  show wpAny _ A.in1 (updateSeq s.heap.objs.size (·.push .none) >>= fun _ => updateSeq s.heap.objs.size (·.pop)) _ _ _
  refine wpAny_bind (wpAny_updateSeq hLg rfl ?_)
  have u1 := Heap.get?_update_self (Obj.mapSeq (·.push Value.none)) hLg rfl
  refine wpAny_updateSeq u1 rfl ?_
  have u2 := Heap.get?_update_self (Obj.mapSeq (·.pop)) u1 rfl
  have oth : ∀ b o, b ≠ s.heap.objs.size → g.get? b = some o → ((g.update s.heap.objs.size (Obj.mapSeq (·.push Value.none))).update s.heap.objs.size (Obj.mapSeq (·.pop))).get? b = some o :=
    fun b o nb e => (Heap.get?_update_other _ _ (Ne.symm nb)).trans ((Heap.get?_update_other _ _ (Ne.symm nb)).trans e)
  have nf : s.heap.objs.size ∉ fp := fun h => by
    rcases hfp _ h with z | ⟨z, _⟩
    · exact absurd z (Nat.ne_of_gt la)
    · have z' : (s.heap.push ob).objs.size ≤ s.heap.objs.size := z
      rw [sz1] at z'
      exact absurd z' (Nat.not_succ_le_self _)
  have W' := W A.in1 (by simp [hh])
  refine wpAny_pure ⟨plainId_quiet PySem.F.plain_extend_loop _, codeAny_extend_loopS W' hs _ nf _ es.size 0 _ _ _ rfl (Nat.zero_le _) (W'.frame 0 ({ s with heap := g, drawn := d } : Shared) _ s.toks st (Nat.le_refl _) fun b hb o e => oth b o (fun h => nf (h ▸ hb)) e) u2 (ItemsOf.nil _) fun s' acc c m hS' it => ?_⟩
  show wpAny _ A (load s.heap.objs.size >>= _) _ _ s'
  refine wpAny_bind (wpAny_load hS' (wpAny_pure ?_))
  have ex : acc.toList = xs := by
    obtain ⟨z, h⟩ := it
    apply List.ext_getElem?
    intro j
    rw [Array.getElem?_toList]
    cases e : acc[j]? with
    | some v => exact (h j v e).symm
    | none =>
      have : es.size ≤ j := by
        have := Array.getElem?_eq_none_iff.mp e
        omega
      exact (List.getElem?_eq_none (by omega)).symm
  rw [ex]
  obtain ⟨g', gn, dr, tk, os⟩ := s'
  obtain ⟨m1, m2, m3, m4, m5⟩ := m
  dsimp only at m1 m2 m3 m4 m5
  subst m2 m3 m4
  refine q xs g' _ tk (fun b o e => m1 b o (fun h => ?_) (oth b o ?_ (keep _ _ (Heap.get?_push_of_some _ e)))) (Heap.lt_size hS') pm hst
  · rcases List.mem_cons.mp h with z | z
    · subst z
      exact absurd (Heap.lt_size e) (Nat.lt_irrefl _)
    · rw [List.mem_singleton] at z
      subst z
      have z' : (s.heap.push ob).objs.size ≤ b := lI
      rw [sz1] at z'
      exact absurd (Heap.lt_size e) (Nat.not_lt_of_le (Nat.le_of_succ_le z'))
  · exact Nat.ne_of_lt (Heap.lt_size e)
theorem rising_le : ∀ {l : List Str} {p : Str}, risingS p l = true → (∀ y ∈ l, ¬ lS y p) ∧ l.Pairwise fun a b => ¬ lS b a
  | [], _, _ => ⟨fun _ h => absurd h (by simp), List.Pairwise.nil⟩
  | x :: r, p, h => by
    have h' : (!ltCps x.cps.toList p.cps.toList && risingS x r) = true := h
    rw [Bool.and_eq_true, Bool.not_eq_true', ltCps_eq] at h'
    obtain ⟨h1, h2⟩ := h'
    have n1 : ¬ lS x p := of_decide_eq_false h1
    obtain ⟨i1, i2⟩ := rising_le h2
    refine ⟨fun y hy => ?_, List.pairwise_cons.mpr ⟨i1, i2⟩⟩
    rcases List.mem_cons.mp hy with rfl | hy
    · exact n1
    · intro c
      exact i1 y hy (Decidable.byContradiction fun d => n1 (Decidable.byContradiction fun n1' => by
        by_cases e : lS p x
        · exact d (lS_tr c e)
        · have e2 := lS_tri n1' e
          subst e2
          exact d c))
theorem sorted_le {l : List Str} (h : sortedS l = true) : l.Pairwise fun a b => ¬ lS b a := by
  cases l with
  | nil => exact List.Pairwise.nil
  | cons x r =>
    obtain ⟨h1, h2⟩ := rising_le (p := x) (l := r) h
    exact List.pairwise_cons.mpr ⟨h1, h2⟩
theorem sortedS_of {a : Addr} {o : Obj} {ss : List Str} {es : Array (Int × Value)} {ep : Nat} {t : SetTable} {Q : Value → Shared → Prop} (hh : A.handled = none) (ho : s.heap.get? a = some o) (S : SetO prog w o ss es ep t) (h64 : es.size < 64)
    (q : ∀ (r : Addr) (us : List Value) (ys : List Str) (n : Nat) g d tk, s.heap.objs.size ≤ r → g.get? r = some (seqObj "list" us.toArray n) → (∀ b o, s.heap.get? b = some o → g.get? b = some o) → StrsAre us ys → ys.Perm ss → (ys.Pairwise fun a b => ¬ lS b a) →
      Q (.ref r) { s with heap := g, drawn := d, toks := tk }) : wpAny (model prog w) A (call (.builtin "sorted") [.ref a]) Q E s := by
  refine Calls.call_function_entry kind_sorted plain_sorted entry_sorted (args_sorted1 _) ?_
  unfold Builtin.«sorted»
  refine wpAny_bind (m := checkCount "sorted" 1 1 _) (wpAny_pure (wpAny_bind (collectS (by simp [hh]) ho S fun xs g d tk keep lg pm hst => ?_)))
  have hl : xs.length = es.size := by
    have := pm.length_eq
    rw [List.length_map] at this
    rw [this, S.size]
  refine wpAny_bind (wpAny_newList ?_ (by rw [hl]; exact fits_of_scanBound S.bd))
  have sa : StrsAre xs (xs.map strOf) := strsAre_map xs hst
  have hoL : (g.push (seqObj "list" xs.toArray 0)).get? g.objs.size = some (seqObj "list" xs.toArray 0) := Heap.get?_push_size _ rfl
  refine wpAny_bind (wpAny_holding (wpAny_call_entry slot_list_sort ⟨_, hoL, rfl⟩ entry_list_sort (list_sort_treeK strKind_oneLt hoL sa.keysOf (fun v1 v2 r e => keyKind_strs (by rw [← e]; exact sa)) (by omega) fun st' a1 a2 => ⟨_, rfl, wpAny_pure ⟨_, rfl, ?_⟩⟩) (args_list_sort _)))
  obtain ⟨ys, b1, b2, b3⟩ := sorted_out_str sa a1 a2
  obtain ⟨n, hn⟩ := sortedHeap_at (out := (arrOf st').map (·.2)) hoL
  refine q g.objs.size ((arrOf st').map (·.2)).toList ys n _ d tk (Nat.le_of_lt lg) (by rw [hn]) (fun b ob e => ?_) b1 (b2.trans pm) (sorted_le b3)
  have hb := Heap.lt_size (keep b ob e)
  show (sortedHeap _ _ _ _).get? b = some ob
  rw [sortedHeap_old (Nat.ne_of_lt hb) (by rw [Heap.size_push]; exact Nat.lt_succ_of_lt hb)]
  exact Heap.get?_push_of_some _ (keep b ob e)
end
section
variable {X : Cx}
theorem vals_str : ∀ {us : List Value} {ys : List Str}, StrsAre us ys → Vals (ys.map V.str) us
  | _, _, .nil => .nil
  | _, _, .cons x t r => .cons ⟨t, rfl⟩ (vals_str r)
theorem boot_sorted : bootBuiltins "sorted" = some (.builtin "sorted") := by decide +kernel
theorem boot_set : bootBuiltins "set" = some (.type "set") := by decide +kernel
def dSSet (K : PySem.W.Frag) (te : TE) : TE := fun σ H Q => te σ H fun x H1 => match x with
  | .ref l => ∃ names : List Str, SqL K H1 l (names.map V.str) ∧ names.length ≤ 1000 ∧ (srt names).length < 64 ∧ ∀ D, H1 D = none → Q (.ref D) (upd H1 D (.lst ((srt names).map V.str)))
  | _ => False
theorem e_sset {e : Expr} {te : TE} {p p' pos pos' : Pos} (hg1 : Gl X "sorted") (hm1 : X.mg "sorted" = none) (hg2 : Gl X "set") (hm2 : X.mg "set" = none) (he : PE X e te) (hc : X.calm = true := by rfl)
    (hs : starEach [.Call (.Name "set" p') [e] [] pos'] X.env = [(false, eval (.Call (.Name "set" p') [e] [] pos') X.env)] := by rfl) (hs2 : starEach [e] X.env = [(false, eval e X.env)] := by rfl) :
    PE X (.Call (.Name "sorted" p) [.Call (.Name "set" p') [e] [] pos'] [] pos) (dSSet X.K te) := by
  intro pins s σ H Q I h
  refine wpAny_Call_Name_kw (ld_blt I hg1 hm1 boot_sorted ?_)
  refine PyProof.Rows.callWith_builtin1 ?_ hs rfl
  rw [hs]
  show wpAny _ _ (spliced ((false, eval (.Call (.Name "set" p') [e] [] pos') X.env) :: backTo pos (starEach [] X.env))) _ _ s
  refine Calls.spliced_cons ?_
  refine wpAny_Call_Name_kw (ld_blt I hg2 hm2 boot_set ?_)
  refine PyProof.Rows.callWith_type1 ?_ hs2 rfl
  rw [hs2]
  show wpAny _ _ (spliced ((false, eval e X.env) :: backTo pos' (starEach [] X.env))) _ _ s
  refine Calls.spliced_cons (thn (he pins s σ H _ I h) fun u s1 ⟨x, H1, I1, r1, q1⟩ => Calls.spliced_nil ?_)
  match x, q1 with
  | .ref l, ⟨names, hq, hn, h64, q⟩ =>
    cases (show u = Value.ref l from r1)
    obtain ⟨its, rv, ⟨oL, nL, eL, cL, dL, xL⟩, hz⟩ := I1.list hq
    have sa : StrsAre its names := strs_of rv
    have hl : its.length = names.length := by rw [← rv.length, List.length_map]
    have hh : X.A.handled = none := I1.ok.hd hc
    refine call_setS hh ⟨oL, eL, cL, nL, xL⟩ sa (by rw [hl]; exact Nat.lt_of_le_of_lt (Nat.succ_le_succ hn) (by decide)) fun g tk hS keep => Calls.spliced_nil ?_
    obtain ⟨o, es, ep, t, ho, S⟩ := hS
    rw [hl] at S
    refine sortedS_of hh ho S (by rw [S.size]; exact Nat.lt_of_le_of_lt (ddn_srt names) h64) fun r us ys n g2 d tk2 lr hr keep2 sa2 pm pw => ?_
    have ey : ys = srt names := inc_ext (pairwise_inc pw (pm.nodup_iff.mpr (ddn_nodup _ _))) (inc_srt _) fun x => by rw [pm.mem_iff, ddn_mem, mem_srt]
    subst ey
    have fr : s1.heap.objs.size ≤ r := Nat.le_trans (Nat.le_of_lt (Heap.lt_size ho)) lr
    have I2 := I1.laid (t' := tk2) (h' := g2) (a := r) (o := .lst ((srt names).map V.str)) (fun b u e => keep2 _ _ (keep _ _ e)) fr ⟨by rw [List.length_map]; exact Nat.le_trans (Nat.le_of_lt h64) (by decide), us, n, vals_str sa2, hr⟩
    exact ⟨.ref r, _, ⟨I2.ok, I2.os, I2.bare, I2.base, I2.loc, I2.cell, I2.free, I2.freeC, I2.pin, I2.hok, I2.len⟩, rfl, q r (I1.hok.fresh fr)⟩
end
end Lw
end
section
set_option Elab.async false
set_option linter.all false
set_option maxRecDepth 100000
set_option maxHeartbeats 4000000
namespace Lw
open PySem PySem.Spec PyProof.Rows L2
section
variable {prog : Program} {w : World} {A : Around} {R : Result → Shared → Prop} {s : Shared}
theorem turn_eqI (elt tg iter cd : Expr) (scope : Scope) (pos : Pos) (it acc : Value) (env : Env) :
    compTurn (.ListComp elt [⟨tg, iter, [cd], 0⟩] scope pos) 0 it acc env = (standAt iter.pos >>= fun _ => pyNext it >>= fun r => match r with
      | none => pure (.done .next)
      | some v => letOwnedTupleGo tg it v >>= fun _ => assign tg env v >>= fun _ => isTrue cd env (eval cd env) >>= fun b => if b = true then ((eval elt env >>= fun x => call (.builtin "list.append") [acc, x] >>= fun _ => pure ()) >>= fun _ => again (.compLoop (.ListComp elt [⟨tg, iter, [cd], 0⟩] scope pos) 0 it acc env)) else again (.compLoop (.ListComp elt [⟨tg, iter, [cd], 0⟩] scope pos) 0 it acc env)) := by
  unfold compTurn
  simp only [List.getElem?_cons_zero, bne_self_eq_false, Bool.false_eq_true, if_false, List.forIn_cons, List.forIn_nil, if_true]
  congr 1
  funext _
  congr 1
  funext r
  cases r with
  | none => rfl
  | some v =>
    simp only [bind_assoc, pure_bind]
    rfl
theorem loop_compI {elt tg iter cd : Expr} {scope : Scope} {pos : Pos} {it acc : Value} {env : Env} (I : Nat → Shared → Prop)
    (turn : ∀ n s, I n s → wpAny (model prog w) A (pyNext it) (fun r s1 => (r = none ∧ R (.ok .next) s1) ∨ ∃ v, r = some v ∧ wpAny (model prog w) A (letOwnedTupleGo tg it v) (fun _ s2 => wpAny (model prog w) A (assign tg env v) (fun _ s3 =>
      wpAny (model prog w) A (isTrue cd env (eval cd env)) (fun b s3 => Br b (wpAny (model prog w) A (eval elt env) (fun x s4 => wpAny (model prog w) A (call (.builtin "list.append") [acc, x]) (fun _ s5 => ∃ m, m < n ∧ I m s5) (fun _ _ => False) s4) (fun _ _ => False) s3) (∃ m, m < n ∧ I m s3)) (fun _ _ => False) s3) (fun _ _ => False) s2) (fun _ _ => False) s1) (fun _ _ => False) s)
    (n : Nat) (h : I n s) : codeAny (model prog w) A (.compLoop (.ListComp elt [⟨tg, iter, [cd], 0⟩] scope pos) 0 it acc env) R s := by
  refine codeAny_loop rfl I (fun n s hI => ?_) n h
  show wpAny _ _ ((compTurn (.ListComp elt [⟨tg, iter, [cd], 0⟩] scope pos) 0 it acc env).onRaise (fun x => do noteFrame x env; theTreesLotGoes x)) _ _ s
  refine wpAny_noted ?_
  rw [turn_eqI]
  refine wpAny_bind (wpAny_standAt (wpAny_bind (wpAny_mono (turn n s hI) (fun r s1 h1 => ?_) fun _ _ z => z.elim)))
  rcases h1 with ⟨rfl, h1⟩ | ⟨v, rfl, h1⟩
  · exact wpAny_pure h1
  · refine wpAny_bind (wpAny_mono h1 (fun _ s2 h2 => ?_) fun _ _ z => z.elim)
    refine wpAny_bind (wpAny_mono h2 (fun _ s3 h3 => ?_) fun _ _ z => z.elim)
    refine wpAny_bind (wpAny_mono h3 (fun b s3 h3 => ?_) fun _ _ z => z.elim)
    cases b with
    | true =>
      refine wpAny_bind (wpAny_bind (wpAny_mono (h3.1 rfl) (fun x s4 h4 => ?_) fun _ _ z => z.elim))
      refine wpAny_bind (wpAny_mono h4 (fun _ s5 h5 => ?_) fun _ _ z => z.elim)
      exact wpAny_pure (wpAny_pure ⟨rfl, h5⟩)
    | false => exact wpAny_pure ⟨rfl, h3.2 rfl⟩
end
@[irreducible] def CGoalI (J : It) (g : TG) (tc : TT) (te : TE) (k : Nat) (js : List Nat) (σ : L2.St) (H1 : Hp) (Q : VK) : Prop := ∀ D, H1 D = none → ∃ W : Nat → Nat → Hp → Prop, (∃ m, W 0 m (upd H1 D (.lst []))) ∧ ∀ i m H, W i m H →
  (J.stop i H ∧ Q (.ref D) H) ∨ (J.go i H ∧ ∀ x H', J.yld i H x H' → g x (List.replicate k none ++ capσ js σ) H' fun σ2 H2 => σ2.drop k = capσ js σ ∧ tc σ2 H2 fun b H3 => Br b (te σ2 H3 fun v H4 => ∃ xs, H4 D = some (.lst xs) ∧ xs.length < sizeLine ∧ ∃ m', m' < m ∧ W (i + 1) m' (upd H4 D (.lst (xs ++ [v])))) (∃ m', m' < m ∧ W (i + 1) m' H3))
def dCompI (wi : TI) (g : TG) (tc : TT) (te : TE) (k : Nat) (js : List Nat) : TE := fun σ H Q => wi σ H fun J H1 => CGoalI J g tc te k js σ H1 Q
section
variable {X : Cx}
theorem comp_coreI {elt iter tg cd : Expr} {scope : Scope} {pos : Pos} {wi : TI} {te : TE} {tc : TT} {g : TG} {N : List Str} {cl : List (Str × Addr)} (k : Nat) (js : List Nat) (hi : PI X tg iter wi)
    (hg : ∀ C s H fp, PG (cxC X N s H (compEnvC scope cl C X.env) fp) tg g) (hd : ∀ C s H fp, PT (cxC X N s H (compEnvC scope cl C X.env) fp) cd tc) (he : ∀ C s H fp, PE (cxC X N s H (compEnvC scope cl C X.env) fp) elt te) (hcalm : X.calm = true)
    (hclos : closureFor scope X.env = pure cl) (hkind : scope.kind = .function) (hcell : ∀ y ∈ scope.names, y.2 ≠ .cell) (hnames : ∀ y ∈ scope.names, y.2 = .local → scope.names.lookup y.1 = some .local)
    (hcl : ∀ y c, cl.lookup y = some c → X.env.cells.lookup y = some c) (hhas : ∀ y, ((relabel scope X.env).names.lookup y = some .cell ∨ (relabel scope X.env).names.lookup y = some .free) → ∃ c, cl.lookup y = some c)
    (hlen : N.length = k + js.length) (hcap : ∀ i j, js[i]? = some j → ∃ y, N[k + i]? = some y ∧ Cap X (relabel scope X.env) cl j y)
    (hs : ∀ x, foldedSetIterable iter X.env x = pure x) {pins : List (Addr × Obj)} {s : Shared} {σ : L2.St} {H : Hp} {Q : VK} (I : Inv X pins σ H s) (h : dCompI wi g tc te k js σ H Q) {cpos : Pos} {use : Option (Value → Sem Unit)} {Qv : Value → Shared → Prop}
    (fin : ∀ (s6 : Shared) (H5 : Hp) (D C : Addr) (m : Str → Option Value), Inv X pins σ H5 s6 → s6.heap.Ns C m → H5 C = none → X.s₀.heap.objs.size ≤ C → C ≠ X.env.locals → (∀ x c, X.env.cells.lookup x = some c → c ≠ C) → (∀ p ∈ X.pn ++ pins, p.1 ≠ C) → Q (.ref D) H5 →
      compPost (model X.prog X.w) X.A X.xe use Qv (.ref D) C (.ok .next) s6) :
    wpAny (model X.prog X.w) X.A (comprehension (.ListComp elt [⟨tg, iter, [cd], 0⟩] scope pos) scope X.env cpos (newList []) false (eval iter X.env) use) Qv X.xe s := by
  refine wpAny_comprehension_free (use := use) rfl hs hclos hkind hnames (thn (hi pins s σ H _ I h) fun v s1 h1 => thn h1 fun itv s2 h2 => ?_)
  obtain ⟨it, fp, tn, J, H2, rfl, I2, T, st2, f2, h2⟩ := h2
  refine wpAny_newObj_type ?_
  have hD : H2 s2.heap.objs.size = none := I2.hok.fresh (Nat.le_refl _)
  unfold CGoalI at h2
  obtain ⟨W, ⟨m0, w0⟩, turn⟩ := h2 _ hD
  have I3 : Inv X pins σ (upd H2 s2.heap.objs.size (.lst [])) { s2 with heap := s2.heap.push { cls := .type "list", dict := none, data := .seq ([] : List Value).toArray } } :=
    I2.laid (t' := s2.toks) (fun b u e => Heap.get?_push_of_some _ e) (Nat.le_refl _) ⟨Nat.zero_le _, [], 0, .nil, Heap.get?_push_size _ rfl⟩
  have hlt : ∀ b ∈ fp, b < s2.heap.objs.size := fun b hb => by
    obtain ⟨o, e, _⟩ := T.obj _ _ st2 b hb
    exact Heap.lt_size e
  have f3 : ∀ b ∈ fp, FpOk X pins (upd H2 s2.heap.objs.size (.lst [])) b := fun b hb => ⟨by rw [upd_ne (Nat.ne_of_lt (hlt b hb))]; exact (f2 b hb).1, (f2 b hb).2⟩
  have st3 : tn 0 (s2.heap.push { cls := .type "list", dict := none, data := .seq ([] : List Value).toArray }) := T.keep _ _ _ st2 fun b hb o e => Heap.get?_push_of_some _ e
  have hlt3 : ∀ b ∈ fp, b < (s2.heap.push { cls := .type "list", dict := none, data := .seq ([] : List Value).toArray }).objs.size := fun b hb => Nat.lt_of_lt_of_le (hlt b hb) (by rw [Heap.size_push]; exact Nat.le_succ _)
  generalize hs3 : ({ s2 with heap := s2.heap.push { cls := .type "list", dict := none, data := .seq ([] : List Value).toArray } } : Shared) = s3 at I3
  have eh : s3.heap = s2.heap.push { cls := .type "list", dict := none, data := .seq ([] : List Value).toArray } := by rw [← hs3]
  rw [← eh] at st3 hlt3
  generalize hDD : s2.heap.objs.size = D at *
  generalize hH3 : upd H2 D (.lst []) = H3 at *
  clear hs3 eh
  refine wpAny_newFunctionEnv (s := s3) hcell (by intro y hy; simp at hy) (fun h4 n4 sb4 => ?_) hkind
  have Ok := comp_ok (N := N) (C := s3.heap.objs.size) I3 hkind (Nat.le_refl _) hcl hhas fun b hb => ⟨f3 b hb, hlt3 b hb⟩
  show codeAny _ _ (.compStart (.ListComp elt [⟨tg, iter, [cd], 0⟩] scope pos) 0 (.ref it) (.ref D) (compEnvC scope cl s3.heap.objs.size X.env)) _ _
  generalize hC : s3.heap.objs.size = C at *
  have old : ∀ b o, s3.heap.get? b = some o → h4.get? b = some o := fun b o e => sb4.extBut b o (by rw [← hC]; exact Nat.ne_of_lt (Heap.lt_size e)) (Heap.get?_push_of_some _ e)
  have fresh : H3 C = none := I3.hok.fresh (by rw [hC]; exact Nat.le_refl _)
  have hcapl : ∀ {i : Nat} {x : Str} {v : V}, N[i]? = some x → (List.replicate k none ++ capσ js σ)[i]? = some (some v) → ∃ u, L2.RelV v u ∧ Look (compEnvC scope cl C X.env) h4 (fun _ => none) x u := by
    intro i x v e1 e2
    by_cases hik : i < k
    · rw [List.getElem?_append_left (by simpa using hik)] at e2
      rw [List.getElem?_replicate] at e2
      simp [hik] at e2
    · rw [List.getElem?_append_right (by simpa using Nat.le_of_not_lt hik), List.length_replicate] at e2
      unfold capσ at e2
      rw [List.getElem?_map] at e2
      cases ej : js[i - k]? with
      | none =>
        rw [ej] at e2
        cases e2
      | some j =>
        rw [ej] at e2
        have e2 : (σ[j]?).join = some v := Option.some.inj e2
        obtain ⟨y, hy, cp⟩ := hcap _ _ ej
        rw [show k + (i - k) = i by omega, e1] at hy
        cases hy
        obtain ⟨m, _, hl⟩ := I3.loc
        have e3 : σ[j]? = some (some v) := by
          cases q : σ[j]? with
          | none =>
            rw [q] at e2
            cases e2
          | some o =>
            rw [q] at e2
            have : o = some v := e2
            rw [this]
        obtain ⟨u, ru, lk⟩ := hl j x v cp.nm e3 (.inr (.inl cp.ko))
        refine ⟨u, ru, ?_⟩
        rcases lk with ⟨z, _⟩ | ⟨_, c, hc, z⟩
        · rw [cp.ko] at z
          cases z
        · refine .inr ⟨.inl cp.ki, c, by rw [← hc]; exact cp.cl, ?_⟩
          obtain ⟨o, e, d⟩ := z
          exact ⟨o, old _ _ e, d⟩
  have I4 : Inv (cxC X N s3 H3 (compEnvC scope cl C X.env) fp) [] (List.replicate k none ++ capσ js σ) H3 { s3 with heap := h4, toks := s3.toks + ([] : List (Str × Value)).length } := by
    refine ⟨Ok, rfl, I3.bare, Un.kept old, ⟨_, n4, fun i x v e1 e2 e3 => ?_⟩, fun x c e => ?_, fresh, fun x c e => I3.freeC x c (hcl x c e), fun p hp => absurd hp (by simp), I3.hok.kept old, ?_⟩
    · obtain ⟨u, ru, lk⟩ := hcapl e1 e2
      refine ⟨u, ru, ?_⟩
      rcases lk with ⟨z, q⟩ | q
      · cases q
      · exact .inr q
    · obtain ⟨v, o, e1, d⟩ := I3.cell x c (hcl x c e)
      exact ⟨v, o, old _ _ e1, d⟩
    · simp [capσ, hlen]
  have fp4 : ∀ {H' : Hp}, (∀ b ∈ fp, H' b = none) → ∀ b ∈ fp, FpOk (cxC X N s3 H3 (compEnvC scope cl C X.env) fp) [] H' b := fun hn b hb =>
    ⟨hn b hb, (Ok.exf b hb).1, Ok.exfs b hb, .inl hb, fun x c e => (Ok.exf b hb).2 x c e, fun p hp => absurd hp (by simp)⟩
  have st4 : tn 0 h4 := T.keep _ _ _ st3 fun b hb o e => old b o e
  have run : ∀ s4 : Shared, s4 = { s3 with heap := h4, toks := s3.toks + ([] : List (Str × Value)).length } →
      codeAny (model X.prog X.w) X.A (.compLoop (.ListComp elt [⟨tg, iter, [cd], 0⟩] scope pos) 0 (.ref it) (.ref D) (compEnvC scope cl C X.env)) (compPost (model X.prog X.w) X.A X.xe use Qv (.ref D) C) s4 := by
    rintro s4 rfl
    refine loop_compI (fun n s' => ∃ i H' σ', Inv (cxC X N s3 H3 (compEnvC scope cl C X.env) fp) [] σ' H' s' ∧ (∀ j : Nat, ∀ v, (List.replicate k none ++ capσ js σ)[j]? = some (some v) → σ'[j]? = some (some v)) ∧ tn i s'.heap ∧ (∀ b ∈ fp, H' b = none) ∧ W i n H') ?_ m0
      ⟨0, H3, _, I4, fun _ _ z => z, st4, fun b hb => (f3 b hb).1, w0⟩
    rintro n s5 ⟨i, H5, σ5, I5, cap5, st5, fr5, w5⟩
    have I5' := I5.weak (σ' := List.replicate k none ++ capσ js σ) (by rw [I5.len]; simp [capσ, hlen]) cap5
    rcases turn i n H5 w5 with ⟨stop, q⟩ | ⟨go, step⟩
    · refine thn (T.done (cxC X N s3 H3 (compEnvC scope cl C X.env) fp) rfl rfl rfl hcalm i [] s5 σ5 H5 _ I5 (fp4 fr5) st5 stop) fun r s6 ⟨hr, I6⟩ => .inl ⟨hr, ?_⟩
      obtain ⟨m6, n6, _⟩ := I6.loc
      have hCf : H5 C = none := I6.free
      have u6 := I6.base
      have uC : Un (frs X.stack) fp H3 H5 s3.heap s6.heap := ⟨u6.keep, u6.slot, u6.free, u6.there, u6.tups, u6.frzs, u6.tbls⟩
      have I7 : Inv X pins σ H5 s6 := I3.call' (s' := s6) I6.os uC I6.hok I6.bare fun b hb => ⟨(f3 b hb).2.2.2.1, (f3 b hb).2.1, (f3 b hb).2.2.2.2.1, (f3 b hb).2.2.2.2.2⟩
      have lt3 : ∀ b o, s3.heap.get? b = some o → b ≠ C := fun b o e => by rw [← hC]; exact Nat.ne_of_lt (Heap.lt_size e)
      refine fin s6 H5 D C m6 I7 n6 hCf (by rw [← hC]; exact I3.sz) (by rw [← hC]; exact Nat.ne_of_gt I3.lt) (fun x c e => ?_) (fun p hp => lt3 p.1 p.2 (I3.pin p hp).1) q
      obtain ⟨v, o, e1, _⟩ := I3.cell x c e
      exact lt3 c o e1
    · refine thn (T.item (cxC X N s3 H3 (compEnvC scope cl C X.env) fp) rfl rfl rfl hcalm i [] s5 _ H5 _ I5' (fp4 fr5) st5 go) fun r s6 ⟨u, hr, h6⟩ => .inr ⟨u, hr, ?_⟩
      refine thn h6 fun _ s7 ⟨x, H7, I7, r7, y7, st7, fr7⟩ => ?_
      have I7' := I7.pinned (fp4 fr7) (T.obj _ _ st7)
      refine thn (hg C s3 H3 fp _ s7 _ H7 x u _ I7' r7 (step x H7 y7)) fun _ s8 ⟨σ8, H8, I8, d8, q8⟩ => ?_
      have capk : ∀ (j : Nat) v, (List.replicate k none ++ capσ js σ)[j]? = some (some v) → σ8[j]? = some (some v) := fun j v e => by
        by_cases hjk : j < k
        · rw [List.getElem?_append_left (by simpa using hjk), List.getElem?_replicate] at e
          simp [hjk] at e
        · rw [List.getElem?_append_right (by simpa using Nat.le_of_not_lt hjk), List.length_replicate, ← d8, List.getElem?_drop] at e
          rw [show k + (j - k) = j by omega] at e
          exact e
      refine thn (hd C s3 H3 fp _ s8 σ8 H8 _ I8 q8) fun b s8' ⟨H8', I8', q8'⟩ => ⟨fun hb => ?_, fun hb => ?_⟩
      · refine thn (he C s3 H3 fp _ s8' σ8 H8' _ I8' (q8'.1 hb)) fun vv s9 ⟨vx, H9, I9, r9, xs, hx9, hz9, m', hm', w9⟩ => ?_
        obtain ⟨z9, its, n9, rl, e9⟩ := (show ObjOk X.prog X.w H9 s9.heap D (.lst xs) from I9.hok D _ hx9)
        have app := mt_append (X := cxC X N s3 H3 (compEnvC scope cl C X.env) fp) _ s9 σ8 H9 (.ref D) [vx] (.ref D) [vv] (fun _ H' => H' = upd H9 D (.lst (xs ++ [vx]))) I9 rfl (.cons r9 .nil) ⟨D, xs, vx, rfl, rfl, hx9, hz9, rfl⟩
        refine thn app fun _ s10 ⟨_, H10, I10, _, e10⟩ => ?_
        subst e10
        refine ⟨m', hm', i + 1, _, σ8, I10.unpinned (pins := []), capk, T.keep _ _ _ st7 fun b hb o e => (I10.pin (b, o) (List.mem_append_right _ (List.mem_append_right _ (mem_pinsAt hb e)))).1, fun b hb => ?_, w9⟩
        obtain ⟨o, e, d⟩ := T.obj _ _ st7 b hb
        exact (I10.pin (b, o) (List.mem_append_right _ (List.mem_append_right _ (mem_pinsAt hb e)))).2.1
      · obtain ⟨m', hm', w9⟩ := q8'.2 hb
        refine ⟨m', hm', i + 1, _, σ8, I8'.unpinned (pins := []), capk, T.keep _ _ _ st7 fun b hb o e => (I8'.pin (b, o) (List.mem_append_right _ (List.mem_append_right _ (mem_pinsAt hb e)))).1, fun b hb => ?_, w9⟩
        obtain ⟨o, e, d⟩ := T.obj _ _ st7 b hb
        exact (I8'.pin (b, o) (List.mem_append_right _ (List.mem_append_right _ (mem_pinsAt hb e)))).2.1
  exact codeAny_compStart_list (run _ rfl) (T.self X.A 0 _ _ _ st4 (run _ rfl))
theorem e_compI {elt iter tg cd : Expr} {scope : Scope} {pos : Pos} {wi : TI} {te : TE} {tc : TT} {g : TG} {N : List Str} {cl : List (Str × Addr)} (k : Nat) (js : List Nat) (hi : PI X tg iter wi)
    (hg : ∀ C s H fp, PG (cxC X N s H (compEnvC scope cl C X.env) fp) tg g) (hd : ∀ C s H fp, PT (cxC X N s H (compEnvC scope cl C X.env) fp) cd tc) (he : ∀ C s H fp, PE (cxC X N s H (compEnvC scope cl C X.env) fp) elt te) (hcalm : X.calm = true)
    (hclos : closureFor scope X.env = pure cl) (hkind : scope.kind = .function) (hcell : ∀ y ∈ scope.names, y.2 ≠ .cell) (hnames : ∀ y ∈ scope.names, y.2 = .local → scope.names.lookup y.1 = some .local)
    (hcl : ∀ y c, cl.lookup y = some c → X.env.cells.lookup y = some c) (hhas : ∀ y, ((relabel scope X.env).names.lookup y = some .cell ∨ (relabel scope X.env).names.lookup y = some .free) → ∃ c, cl.lookup y = some c)
    (hlen : N.length = k + js.length) (hcap : ∀ i j, js[i]? = some j → ∃ y, N[k + i]? = some y ∧ Cap X (relabel scope X.env) cl j y)
    (hs : ∀ x, foldedSetIterable iter X.env x = pure x := by intro _; rfl) : PE X (.ListComp elt [⟨tg, iter, [cd], 0⟩] scope pos) (dCompI wi g tc te k js) := by
  intro pins s σ H Q I h
  rw [eval_ListComp]
  refine comp_coreI k js hi hg hd he hcalm hclos hkind hcell hnames hcl hhas hlen hcap hs I h fun s6 H5 D C m I6 n6 z1 z2 z3 z4 z5 q => ⟨m, n6, fun h7 sb7 => ⟨.ref D, H5, ?_, rfl, q⟩⟩
  exact I6.turned (t' := s6.toks) (fun b o hb e => (sb7.2 b hb).trans e) z1 z3.symm.symm (.inr z2) z4 z5
theorem e_compIN {elt iter tg cd : Expr} {scope : Scope} {pos : Pos} {wi : TI} {te : TE} {tc : TT} {g : TG} {cl : List (Str × Addr)} (own ys : List Str) (js : List Nat) (hclos : closureFor scope X.env = pure cl) (hi : PI X tg iter wi)
    (hg : ∀ C s H fp, PG (cxC X (own ++ ys) s H (compEnvC scope cl C X.env) fp) tg g) (hd : ∀ C s H fp, PT (cxC X (own ++ ys) s H (compEnvC scope cl C X.env) fp) cd tc) (he : ∀ C s H fp, PE (cxC X (own ++ ys) s H (compEnvC scope cl C X.env) fp) elt te) (hcalm : X.calm = true) (hkind : scope.kind = .function)
    (hcell : (scope.names.all fun y => y.2 != .cell) = true) (hnames : (scope.names.all fun y => y.2 != .local || scope.names.lookup y.1 == some .local) = true) (hfr : (scope.names.all fun y => y.2 != .free || (cl.map (·.1)).contains y.1) = true)
    (hcl : CellL X.env.cells cl) (hcap : CapL X (relabel scope X.env) cl ys js) (hs : ∀ x, foldedSetIterable iter X.env x = pure x := by intro _; rfl) :
    PE X (.ListComp elt [⟨tg, iter, [cd], 0⟩] scope pos) (dCompI wi g tc te own.length js) := by
  rw [List.all_eq_true] at hcell hnames hfr
  have hc : ∀ y ∈ scope.names, y.2 ≠ .cell := fun y hy z => by
    have := hcell y hy
    rw [z] at this
    cases this
  refine e_compI own.length js hi hg hd he hcalm hclos hkind hc (fun y hy z => ?_) hcl.at (fun y h => ?_) (by rw [List.length_append, hcap.len]) (fun i j e => ?_) hs
  · have := hnames y hy
    rw [z] at this
    simpa using this
  · obtain ⟨z, hz, rfl, hk⟩ : ∃ z ∈ scope.names, z.1 = y ∧ (z.2 = .free ∨ z.2 = .cell) := by
      rcases h with h | h
      · exact relabel_has h (.inl rfl)
      · exact relabel_has h (.inr rfl)
    rcases hk with hk | hk
    · have := hfr z hz
      rw [hk] at this
      exact lookup_has (by simpa using this)
    · exact absurd hk (hc z hz)
  · obtain ⟨y, h1, h2⟩ := hcap.at i j e
    exact ⟨y, by rw [List.getElem?_append_right (Nat.le_add_right _ _), Nat.add_sub_cancel_left]; exact h1, h2⟩
end
end Lw
end
section
set_option Elab.async false
set_option linter.all false
set_option maxRecDepth 100000
set_option maxHeartbeats 4000000
namespace Lw
open PySem PySem.Spec PyProof.Rows L2
inductive All2 {α β : Type} (R : α → β → Prop) : List α → List β → Prop where
  | nil : All2 R [] []
  | cons {a : α} {b : β} {l : List α} {m : List β} : R a b → All2 R l m → All2 R (a :: l) (b :: m)
theorem All2.len {α β : Type} {R : α → β → Prop} : ∀ {l : List α} {m : List β}, All2 R l m → l.length = m.length
  | _, _, .nil => rfl
  | _, _, .cons _ r => by rw [List.length_cons, List.length_cons, r.len]
theorem All2.imp {α β : Type} {R S : α → β → Prop} (h : ∀ a b, R a b → S a b) : ∀ {l : List α} {m : List β}, All2 R l m → All2 S l m
  | _, _, .nil => .nil
  | _, _, .cons x r => .cons (h _ _ x) (r.imp h)
theorem All2.snoc {α β : Type} {R : α → β → Prop} {a : α} {b : β} (x : R a b) : ∀ {l : List α} {m : List β}, All2 R l m → All2 R (l ++ [a]) (m ++ [b])
  | _, _, .nil => .cons x .nil
  | _, _, .cons y r => .cons y (r.snoc x)
theorem All2.get {α β : Type} {R : α → β → Prop} : ∀ {l : List α} {m : List β}, All2 R l m → ∀ {i : Nat} {a : α}, l[i]? = some a → ∃ b, m[i]? = some b ∧ R a b
  | _, _, .nil, i, a, h => by simp at h
  | _, _, .cons x r, 0, a, h => by
    simp at h
    subst h
    exact ⟨_, rfl, x⟩
  | _, _, .cons x r, i + 1, a, h => by
    simp only [List.getElem?_cons_succ] at h ⊢
    exact r.get h
theorem All2.app {α β : Type} {R : α → β → Prop} : ∀ {l l' : List α} {m m' : List β}, All2 R l m → All2 R l' m' → All2 R (l ++ l') (m ++ m')
  | _, _, _, _, .nil, h => h
  | _, _, _, _, .cons x r, h => .cons x (r.app h)
def Kt (H H' : Hp) : Prop := ∀ p xs, H p = some (.tup xs) → H' p = some (.tup xs)
theorem Kt.trans {H H1 H2 : Hp} (a : Kt H H1) (b : Kt H1 H2) : Kt H H2 := fun p xs h => b p xs (a p xs h)
theorem kt_of {H H' : Hp} (s : Same H H') : Kt H H' := fun p xs h => s p _ h
theorem kt_upd {H : Hp} {D : Addr} {zs : List V} {o : HO} (h : H D = some (.lst zs)) : Kt H (upd H D o) := fun p xs e => by
  have ne : p ≠ D := fun z => by
    subst z
    rw [h] at e
    cases e
  rw [upd_ne ne]
  exact e
theorem same_app' {H0 H : Hp} {D : Addr} {o : HO} (s : Same H0 H) (h : H0 D = none) : Same H0 (upd H D o) := fun b u e => by
  rw [upd_ne (ne_of_none e h)]
  exact s b u e
theorem comp_abs {β : Type} {K : PySem.W.Frag} {a : Addr} {xs : List V} {ms : List β} {g : TG} {te : TE} {k : Nat} {js : List Nat} {σ : L2.St} {H1 : Hp} {Q : VK} (M : Hp → V → β → Prop) (upM : ∀ v m H H', Kt H H' → M H v m → M H' v m) (R : Hp → β → V → Prop) (up : ∀ m y H H', Kt H H' → R H m y → R H' m y)
    (hz : xs.length ≤ 1000) (hx : SqL K H1 a xs) (hm : All2 (M H1) xs ms)
    (hs : ∀ v m H2, M H2 v m → m ∈ ms → Same H1 H2 → ∀ P : VK, (∀ y H3, Same H2 H3 → R H3 m y → P y H3) → g v (List.replicate k none ++ capσ js σ) H2 fun σ2 H3 => σ2.drop k = capσ js σ ∧ te σ2 H3 P)
    (hq : ∀ D H' ys, Same H1 H' → H1 D = none → H' D = some (.lst ys) → All2 (R H') ms ys → Q (.ref D) H') : CGoal (Itl K a) g te k js σ H1 Q := by
  unfold CGoal
  intro D hD
  have hl := hm.len
  refine ⟨fun i m H => m = xs.length - i ∧ i ≤ xs.length ∧ Same H1 H ∧ ∃ ys, H D = some (.lst ys) ∧ All2 (R H) (ms.take i) ys, ⟨xs.length, by simp, Nat.zero_le _, same_upd hD, [], upd_same, .nil⟩, ?_⟩
  rintro i m H ⟨rfl, hi, sm, ys, hH, ar⟩
  have sq := sm.seq hx
  by_cases hlt : i < xs.length
  · have e : xs[i]? = some xs[i] := by simp [hlt]
    refine .inr ⟨⟨xs, _, sq, e⟩, fun x H' y => ?_⟩
    obtain ⟨e1, e2⟩ := y
    subst e1
    have hv := e2 xs sq
    obtain ⟨m, hmi, hM⟩ := hm.get hv
    refine hs x m _ (upM _ _ _ _ (kt_of sm) hM) (List.mem_of_getElem? hmi) sm _ fun y H3 s3 r3 => ⟨ys, s3 _ _ hH, ?_, xs.length - (i + 1), by omega, rfl, hlt, same_app' (sm.trans s3) hD, ys ++ [y], upd_same, ?_⟩
    · rw [← ar.len, List.length_take]
      exact Nat.lt_of_le_of_lt (Nat.min_le_left _ _) (Nat.lt_of_lt_of_le hlt (Nat.le_trans hz (by decide)))
    · have kt : Kt H3 (upd H3 D (.lst (ys ++ [y]))) := kt_upd (s3 _ _ hH)
      rw [List.take_add_one, hmi]
      exact (ar.imp fun v y r => up v y _ _ ((kt_of s3).trans kt) r).snoc (up _ _ _ _ kt r3)
  · have e : i = xs.length := by omega
    subst e
    rw [hl, List.take_length] at ar
    exact .inl ⟨⟨xs, sq, Nat.le_refl _⟩, hq D _ ys sm hD hH ar⟩
theorem comp_absI {β : Type} {K : PySem.W.Frag} {a : Addr} {xs : List V} {ms : List β} {g : TG} {tc : TT} {te : TE} {k : Nat} {js : List Nat} {σ : L2.St} {H1 : Hp} {Q : VK} (M : Hp → V → β → Prop) (upM : ∀ v m H H', Kt H H' → M H v m → M H' v m) (R : Hp → β → V → Prop) (up : ∀ m y H H', Kt H H' → R H m y → R H' m y)
    (c : β → Bool) (hz : xs.length ≤ 1000) (hx : SqL K H1 a xs) (hm : All2 (M H1) xs ms)
    (hs : ∀ v m H2, M H2 v m → m ∈ ms → Same H1 H2 → ∀ (P : VK) (P' : Hp → Prop), (c m = true → ∀ y H3, Same H2 H3 → R H3 m y → P y H3) → (c m = false → ∀ H3, Same H2 H3 → P' H3) → g v (List.replicate k none ++ capσ js σ) H2 fun σ2 H3 => σ2.drop k = capσ js σ ∧ tc σ2 H3 fun b H4 => Br b (te σ2 H4 P) (P' H4))
    (hq : ∀ D H' ys, Same H1 H' → H1 D = none → H' D = some (.lst ys) → All2 (R H') (ms.filter c) ys → Q (.ref D) H') : CGoalI (Itl K a) g tc te k js σ H1 Q := by
  unfold CGoalI
  intro D hD
  have hl := hm.len
  refine ⟨fun i m H => m = xs.length - i ∧ i ≤ xs.length ∧ Same H1 H ∧ ∃ ys, H D = some (.lst ys) ∧ All2 (R H) ((ms.take i).filter c) ys, ⟨xs.length, by simp, Nat.zero_le _, same_upd hD, [], upd_same, .nil⟩, ?_⟩
  rintro i m H ⟨rfl, hi, sm, ys, hH, ar⟩
  have sq := sm.seq hx
  by_cases hlt : i < xs.length
  · have e : xs[i]? = some xs[i] := by simp [hlt]
    refine .inr ⟨⟨xs, _, sq, e⟩, fun x H' y => ?_⟩
    obtain ⟨e1, e2⟩ := y
    subst e1
    have hv := e2 xs sq
    obtain ⟨m, hmi, hM⟩ := hm.get hv
    have yl : ys.length < sizeLine := by
      rw [← ar.len]
      refine Nat.lt_of_le_of_lt (List.length_filter_le _ _) ?_
      rw [List.length_take]
      exact Nat.lt_of_le_of_lt (Nat.min_le_left _ _) (Nat.lt_of_lt_of_le hlt (Nat.le_trans hz (by decide)))
    refine hs x m _ (upM _ _ _ _ (kt_of sm) hM) (List.mem_of_getElem? hmi) sm _ _ (fun hc y H3 s3 r3 => ⟨ys, s3 _ _ hH, yl, xs.length - (i + 1), by omega, rfl, hlt, same_app' (sm.trans s3) hD, ys ++ [y], upd_same, ?_⟩) fun hc H3 s3 => ⟨xs.length - (i + 1), by omega, rfl, hlt, sm.trans s3, ys, s3 _ _ hH, ?_⟩
    · have kt : Kt H3 (upd H3 D (.lst (ys ++ [y]))) := kt_upd (s3 _ _ hH)
      rw [List.take_add_one, hmi, List.filter_append]
      have ef : (Option.toList (some m)).filter c = [m] := by simp [hc]
      rw [ef]
      exact (ar.imp fun v y r => up v y _ _ ((kt_of s3).trans kt) r).snoc (up _ _ _ _ kt r3)
    · rw [List.take_add_one, hmi, List.filter_append]
      have ef : (Option.toList (some m)).filter c = [] := by simp [hc]
      rw [ef, List.append_nil]
      exact ar.imp fun v y r => up v y _ _ (kt_of s3) r
  · have e : i = xs.length := by omega
    subst e
    rw [hl, List.take_length] at ar
    exact .inl ⟨⟨xs, sq, Nat.le_refl _⟩, hq D _ ys sm hD hH ar⟩
structure Gm where
  d : Int
  a : Str
  b : Str
  h : Int
  s : Int
def GmAt (H : Hp) (v : V) (g : Gm) : Prop := ∃ p, v = .ref p ∧ H p = some (.tup [.int g.d, .str g.a, .str g.b, .int g.h, .int g.s])
theorem gm_up (v : V) (g : Gm) (H H' : Hp) (k : Kt H H') (h : GmAt H v g) : GmAt H' v g := by
  obtain ⟨p, e, r⟩ := h
  exact ⟨p, e, k _ _ r⟩
def Bk (K : PySem.W.Frag) (H : Hp) (L : Addr) (gs : List Gm) : Prop := ∃ vs, SqL K H L vs ∧ All2 (GmAt H) vs gs ∧ gs.length ≤ 100
def trn (g : Gm) : Gm := ⟨g.d, g.b, g.a, 2 - g.h, -g.s⟩
def plr (gs : List Gm) : List Str := srt (gs.map (·.a) ++ gs.map (·.b))
def isIn (n : Str) (g : Gm) : Bool := n == g.a || n == g.b
def toldG (n : Str) (g : Gm) : Gm := if g.a = n then g else trn g
def tld (n : Str) (gs : List Gm) : List Gm := (gs.filter (isIn n)).map (toldG n)
def tkr (n : Str) (gs : List Gm) : List Str := srt (((tld n gs).filter fun g => decide (g.h < 2)).map (·.b))
theorem all2_strs {f : Gm → Str} : ∀ {gs : List Gm} {ys : List V}, All2 (fun g y => y = V.str (f g)) gs ys → ys = (gs.map f).map V.str
  | _, _, .nil => rfl
  | _, _, .cons e r => by rw [e, all2_strs r]; rfl
theorem mem_plr {gs : List Gm} {x : Str} : x ∈ plr gs ↔ ∃ g ∈ gs, x = g.a ∨ x = g.b := by
  unfold plr
  rw [mem_srt, List.mem_append, List.mem_map, List.mem_map]
  constructor
  · rintro (⟨g, h, rfl⟩ | ⟨g, h, rfl⟩)
    · exact ⟨g, h, .inl rfl⟩
    · exact ⟨g, h, .inr rfl⟩
  · rintro ⟨g, h, rfl | rfl⟩
    · exact .inl ⟨g, h, rfl⟩
    · exact .inr ⟨g, h, rfl⟩
section
variable {X : Cx}
end
def gd (g : Gm) : PyData := .tuple [.int g.d, .str g.a, .str g.b, .int g.h, .int g.s]
theorem cl_gms : ∀ {gs : List Gm}, (∀ g ∈ gs, PyData.strOk g.a = true ∧ PyData.strOk g.b = true) → PyData.canLayAll0 (gs.map gd) = true
  | [], _ => rfl
  | g :: gs, h => by
    obtain ⟨h1, h2⟩ := h g (List.mem_cons_self ..)
    show ((true && (PyData.strOk g.a && (PyData.strOk g.b && true))) && PyData.canLayAll0 (gs.map gd)) = true
    rw [h1, h2, cl_gms fun y hy => h y (List.mem_cons_of_mem _ hy)]
    rfl
theorem dp_gms : ∀ (gs : List Gm), PyData.depthAll (gs.map gd) ≤ 1
  | [] => Nat.zero_le _
  | g :: gs => by
    have e : (gd g).depth = 1 := rfl
    show max (gd g).depth (PyData.depthAll (gs.map gd)) ≤ 1
    rw [e]
    have := dp_gms gs
    omega
theorem sh_gms {gs : List Gm} (h : ∀ g ∈ gs, PyData.strOk g.a = true ∧ PyData.strOk g.b = true) : SeqAt.shaped (.list (gs.map gd)) = true := by
  unfold SeqAt.shaped
  have e : (PyData.list (gs.map gd)).depth = PyData.depthAll (gs.map gd) + 1 := rfl
  have := dp_gms gs
  rw [show (PyData.list (gs.map gd)).canLay0 = true from cl_gms h, e, Bool.true_and]
  exact decide_eq_true (by omega)
theorem rpl_gms {K : PySem.W.Frag} {H : Hp} : ∀ {vs : List V} {gs : List Gm}, All2 (GmAt H) vs gs → RpL K H vs (gs.map gd)
  | _, _, .nil => .nil
  | _, _, .cons ⟨p, e, h⟩ r => by
    subst e
    exact .cons (.tup (SqT.of h) (.cons (.int _) (.cons (.str _) (.cons (.str _) (.cons (.int _) (.cons (.int _) .nil)))))) (rpl_gms r)
theorem rp_gms {K : PySem.W.Frag} {H : Hp} {p : Addr} {vs : List V} {gs : List Gm} (h : SqL K H p vs) (a : All2 (GmAt H) vs gs) : Rp K H (.ref p) (.list (gs.map gd)) := .lst h (rpl_gms a)
theorem eqv_shaped {d : PyData} (h : SeqAt.shaped d = true) : PyData.eqv d d = true := SeqAt.eqv_refl d (SeqAt.canLay_of_shaped h)
theorem plr_sub {nm : List Str} {gs : List Gm} (h : ∀ g ∈ gs, g.a ∈ nm ∧ g.b ∈ nm) {x : Str} (hx : x ∈ plr gs) : x ∈ nm := by
  obtain ⟨g, hg, rfl | rfl⟩ := mem_plr.mp hx
  · exact (h g hg).1
  · exact (h g hg).2
theorem plr_len {nm : List Str} {gs : List Gm} (h : ∀ g ∈ gs, g.a ∈ nm ∧ g.b ∈ nm) : (plr gs).length ≤ nm.length := nd_len (inc_nodup (inc_srt _)) fun x hx => plr_sub h hx
end Lw
end
section
set_option Elab.async false
set_option linter.all false
set_option maxRecDepth 100000
set_option maxHeartbeats 4000000
namespace Lw
open PySem PySem.Spec PyProof.Rows L2
section
variable {X : Cx}
end
theorem All2.take {α β : Type} {R : α → β → Prop} : ∀ {l : List α} {m : List β} (n : Nat), All2 R l m → All2 R (l.take n) (m.take n)
  | _, _, 0, _ => .nil
  | _, _, n + 1, .nil => .nil
  | _, _, n + 1, .cons x r => .cons x (r.take n)
theorem All2.drop {α β : Type} {R : α → β → Prop} : ∀ {l : List α} {m : List β} (n : Nat), All2 R l m → All2 R (l.drop n) (m.drop n)
  | _, _, 0, h => h
  | _, _, n + 1, .nil => .nil
  | _, _, n + 1, .cons x r => r.drop n
end Lw
end
section
set_option Elab.async false
set_option linter.all false
set_option maxRecDepth 100000
set_option maxHeartbeats 4000000
namespace Lw
open PySem PySem.Spec PySem.W PyProof.Rows
def Rn {α : Type} (key : Nat → Int) (n : Nat) : KasT α → (α → Prop) → Prop
  | .ret a, R => R a
  | .ask i j k, R => i < n ∧ j < n ∧ Rn key n (k (decide (key i < key j))) R
theorem Rn.bind {α β : Type} {key : Nat → Int} {n : Nat} {f : α → KasT β} {R : β → Prop} : ∀ {t : KasT α}, Rn key n t (fun a => Rn key n (f a) R) → Rn key n (t.bind f) R
  | .ret _, h => h
  | .ask _ _ k, ⟨h1, h2, h3⟩ => ⟨h1, h2, Rn.bind (t := k _) h3⟩
theorem Rn.mono {α : Type} {key : Nat → Int} {n : Nat} {R R' : α → Prop} (hr : ∀ a, R a → R' a) : ∀ {t : KasT α}, Rn key n t R → Rn key n t R'
  | .ret a, h => hr a h
  | .ask _ _ k, ⟨h1, h2, h3⟩ => ⟨h1, h2, Rn.mono hr (t := k _) h3⟩
theorem Rn.wp {α : Type} {key : Nat → Int} {n : Nat} {cmp : Nat → Nat → (Bool → Shared → Prop) → Shared → Prop} {s : Shared} (hc : ∀ i j, i < n → j < n → ∀ C : Bool → Shared → Prop, C (decide (key i < key j)) s → cmp i j C s) {Q : α → Shared → Prop} : ∀ {t : KasT α}, Rn key n t (fun a => Q a s) → t.kasWp cmp Q s
  | .ret _, h => h
  | .ask i j k, ⟨h1, h2, h3⟩ => hc i j h1 h2 _ (Rn.wp hc (t := k _) h3)
section
variable {key : Nat → Int} {N : Nat}
def Pv (p : Array Nat) (k : Nat) : Nat := p[k]?.getD 0
theorem pv_getD (p : Array Nat) (k : Nat) : p.getD k 0 = Pv p k := by
  unfold Pv
  exact Array.getD_eq_getD_getElem? ..
theorem pv_rev {p : Array Nat} {i j : Nat} (hj : j ≤ p.size) (k : Nat) : Pv (kas_rev p i j) k = if i ≤ k ∧ k < j then Pv p (i + j - 1 - k) else Pv p k := by
  unfold Pv kas_rev
  rw [getElem?_mirror_all hj]
  split <;> rfl
theorem pv_bub {p : Array Nat} {src d : Nat} (hs : src < p.size) (hd : d ≤ src) (k : Nat) : Pv (bubble p src d) k = if k = src - d then Pv p src else if src - d < k ∧ k ≤ src then Pv p (k - 1) else Pv p k := by
  unfold Pv
  rw [getElem?_bubble hs d hd]
  split
  · rfl
  · split <;> rfl
theorem rev_size (p : Array Nat) (i j : Nat) : (kas_rev p i j).size = p.size := mirror_size _ _ _ _
def Lt (key : Nat → Int) (i j : Nat) : Prop := key i < key j ∨ (key i = key j ∧ i < j)
structure Stp (N : Nat) (p : Array Nat) (n : Nat) : Prop where
  sz : p.size = N
  tl : ∀ k, n ≤ k → k < N → Pv p k = k
  hd : ∀ k, k < n → Pv p k < n
  le : n ≤ N
theorem Stp.lt {p : Array Nat} {n : Nat} (h : Stp N p n) {k : Nat} (hk : k < N) : Pv p k < N := by
  by_cases c : k < n
  · have := h.hd k c
    have := h.le
    omega
  · rw [h.tl k (by omega) hk]
    exact hk
theorem Stp.one {p : Array Nat} {n : Nat} (h : Stp N p n) (hn : n < N) : Stp N p (n + 1) := ⟨h.sz, fun k h1 h2 => h.tl k (by omega) h2, fun k hk => by
  by_cases c : k < n
  · have := h.hd k c
    omega
  · have : k = n := by omega
    subst this
    rw [h.tl k (Nat.le_refl _) hn]
    exact hk, hn⟩
theorem Stp.rev {p : Array Nat} {n i : Nat} (h : Stp N p n) {j : Nat} (hj : j ≤ n) : Stp N (kas_rev p i j) n := ⟨by rw [rev_size, h.sz], fun k h1 h2 => by
  rw [pv_rev (by rw [h.sz]; have := h.le; omega), if_neg (by omega)]
  exact h.tl k h1 h2, fun k hk => by
  rw [pv_rev (by rw [h.sz]; have := h.le; omega)]
  split
  · exact h.hd _ (by omega)
  · exact h.hd k hk, h.le⟩
def As (key : Nat → Int) (p : Array Nat) (n : Nat) : Prop := ∀ a b, a < b → b < n → Lt key (Pv p a) (Pv p b)
theorem as_one {p : Array Nat} {n : Nat} (h : Stp N p n) (ha : As key p n) (h1 : 1 ≤ n) (hn : n < N) (hk : ¬ key (Pv p n) < key (Pv p (n - 1))) : As key p (n + 1) := fun a b hab hb => by
  by_cases c : b < n
  · exact ha a b hab c
  · have : b = n := by omega
    subst this
    have e := h.tl b (Nat.le_refl _) hn
    have l := h.hd a hab
    rw [e] at hk ⊢
    have q : key (Pv p a) ≤ key (Pv p (b - 1)) := by
      by_cases d : a = b - 1
      · rw [d]
        exact Int.le_refl _
      · rcases ha a (b - 1) (by omega) (by omega) with x | x <;> omega
    by_cases d : key (Pv p a) < key b
    · exact .inl d
    · exact .inr ⟨by omega, l⟩
theorem asc_ok {p : Array Nat} : ∀ (f n : Nat), Stp N p n → As key p n → 1 ≤ n → n + f = N → Rn key N (kas_asc p f n) fun m => Stp N p m ∧ As key p m ∧ n ≤ m ∧ (m < N → key (Pv p m) < key (Pv p (m - 1)))
  | 0, n, h, ha, h1, e => ⟨h, ha, Nat.le_refl _, fun c => by omega⟩
  | f + 1, n, h, ha, h1, e => by
    show _ < N ∧ _ < N ∧ Rn key N _ _
    rw [pv_getD, pv_getD]
    refine ⟨h.lt (by omega), h.lt (by omega), ?_⟩
    by_cases c : key (Pv p n) < key (Pv p (n - 1))
    · rw [decide_eq_true c]
      exact ⟨h, ha, Nat.le_refl _, fun _ => c⟩
    · rw [decide_eq_false c]
      exact Rn.mono (fun m ⟨a1, a2, a3, a4⟩ => ⟨a1, a2, by omega, a4⟩) (asc_ok f (n + 1) (h.one (by omega)) (as_one h ha h1 (by omega) c) (by omega) (by omega))
def Da (key : Nat → Int) (p : Array Nat) (n : Nat) : Prop := ∀ a b, a < b → b < n → Lt key (Pv p b) (Pv p a)
structure De (key : Nat → Int) (p : Array Nat) (n q : Nat) : Prop where
  ql : q < n
  dn : ∀ a b, a < b → b < n → a + q + 1 < n → Lt key (Pv p b) (Pv p a)
  gp : ∀ a, a + q + 1 < n → key (Pv p (n - 1)) < key (Pv p a)
  eq : ∀ a b, n ≤ a + q + 1 → a < b → b < n → key (Pv p a) = key (Pv p b) ∧ Pv p a < Pv p b
theorem De.all {p : Array Nat} {n q : Nat} (h : Stp N p n) (d : De key p n q) : Da key (kas_rev p (n - (q + 1)) n) n := by
  have hz : n ≤ p.size := by rw [h.sz]; exact h.le
  have ql := d.ql
  refine fun a b hab hb => ?_
  rw [pv_rev hz, pv_rev hz]
  by_cases ca : n - (q + 1) ≤ a
  · rw [if_pos ⟨by omega, hb⟩, if_pos ⟨ca, by omega⟩]
    obtain ⟨e, l⟩ := d.eq (n - (q + 1) + n - 1 - b) (n - (q + 1) + n - 1 - a) (by omega) (by omega) (by omega)
    exact .inr ⟨e, l⟩
  · rw [if_neg (show ¬ (n - (q + 1) ≤ a ∧ a < n) by omega)]
    split
    · exact d.dn a _ (by omega) (by omega) (by omega)
    · exact d.dn a b hab hb (by omega)
theorem De.zero {p : Array Nat} {n : Nat} (d : De key p n 0) : Da key p n := fun a b hab hb => d.dn a b hab hb (by omega)
theorem De.last {p : Array Nat} {n q : Nat} (d : De key p n q) {a : Nat} (ha : a < n) : key (Pv p (n - 1)) ≤ key (Pv p a) := by
  have ql := d.ql
  by_cases e : a = n - 1
  · rw [e]
    exact Int.le_refl _
  · by_cases c : a + q + 1 < n
    · exact Int.le_of_lt (d.gp a c)
    · have := (d.eq a (n - 1) (by omega) (by omega) (by omega)).1
      omega
theorem Da.below {p : Array Nat} {n : Nat} (h : Stp N p n) (d : Da key p n) (hn : n < N) (hk : ∀ a, a < n → key n < key (Pv p a)) : De key p (n + 1) 0 := ⟨by omega, fun a b hab hb _ => by
  by_cases c : b < n
  · exact d a b hab c
  · have : b = n := by omega
    subst this
    rw [h.tl b (Nat.le_refl _) hn]
    exact .inl (hk a hab), fun a ha => by
  show key (Pv p n) < _
  rw [h.tl n (Nat.le_refl _) hn]
  exact hk a (by omega), fun a b h1 h2 h3 => by omega⟩
theorem De.same {p : Array Nat} {n q : Nat} (h : Stp N p n) (d : De key p n q) (hn : n < N) (hk : key n = key (Pv p (n - 1))) : De key p (n + 1) (q + 1) := by
  have ql := d.ql
  have e := h.tl n (Nat.le_refl _) hn
  refine ⟨by omega, fun a b hab hb hq => ?_, fun a ha => ?_, fun a b h1 h2 h3 => ?_⟩
  · by_cases c : b < n
    · exact d.dn a b hab c (by omega)
    · have : b = n := by omega
      subst this
      rw [e]
      have := d.gp a (by omega)
      exact .inl (by omega)
  · show key (Pv p n) < _
    rw [e, hk]
    exact d.gp a (by omega)
  · by_cases c : b < n
    · exact d.eq a b (by omega) h2 c
    · have : b = n := by omega
      subst this
      rw [e]
      refine ⟨?_, h.hd a h2⟩
      by_cases z : a = b - 1
      · rw [z]
        exact hk.symm
      · rw [hk]
        exact (d.eq a (b - 1) (by omega) (by omega) (by omega)).1
theorem desc_ok : ∀ (f : Nat) {p : Array Nat} {n q : Nat}, Stp N p n → De key p n q → n + f = N → Rn key N (kas_desc f p n q) fun r => Stp N r.1 r.2.1 ∧ De key r.1 r.2.1 r.2.2
  | 0, p, n, q, h, d, e => ⟨h, d⟩
  | f + 1, p, n, q, h, d, e => by
    have ql := d.ql
    have hn : n < N := by omega
    show _ < N ∧ _ < N ∧ Rn key N _ _
    rw [pv_getD, pv_getD]
    have en := h.tl n (Nat.le_refl _) hn
    refine ⟨h.lt hn, h.lt (by omega), ?_⟩
    by_cases c : key (Pv p n) < key (Pv p (n - 1))
    · simp only [decide_eq_true c, ↓reduceIte]
      rw [en] at c
      by_cases z : q > 0
      · rw [if_pos z]
        have h' := h.rev (i := n - (q + 1)) (Nat.le_refl n)
        refine desc_ok f (h'.one hn) ((d.all h).below h' hn fun a ha => ?_) (by omega)
        rw [pv_rev (by rw [h.sz]; omega)]
        split
        · have := d.last (a := n - (q + 1) + n - 1 - a) (by omega)
          omega
        · have := d.last ha
          omega
      · rw [if_neg z]
        have : q = 0 := by omega
        subst this
        exact desc_ok f (h.one hn) (d.zero.below h hn fun a ha => by have := d.last ha; omega) (by omega)
    · simp only [decide_eq_false c, Bool.false_eq_true, ↓reduceIte]
      show _ < N ∧ _ < N ∧ Rn key N _ _
      refine ⟨h.lt (by omega), h.lt hn, ?_⟩
      by_cases c' : key (Pv p (n - 1)) < key (Pv p n)
      · simp only [decide_eq_true c', ↓reduceIte]
        exact ⟨h, d⟩
      · simp only [decide_eq_false c', Bool.false_eq_true, ↓reduceIte]
        exact desc_ok f (h.one hn) (d.same h hn (by rw [en] at c c'; omega)) (by omega)
theorem Da.turn {p : Array Nat} {n : Nat} (h : Stp N p n) (d : Da key p n) : As key (kas_rev p 0 n) n := fun a b hab hb => by
  have hz : n ≤ p.size := by rw [h.sz]; exact h.le
  rw [pv_rev hz, pv_rev hz, if_pos ⟨Nat.zero_le _, by omega⟩, if_pos ⟨Nat.zero_le _, hb⟩]
  exact d _ _ (by omega) (by omega)
theorem tail3_ok {p : Array Nat} {n : Nat} (h : Stp N p n) (d : Da key p n) (h1 : 1 ≤ n) : Rn key N (kas_tail3 n N p) fun r => Stp N r.2 r.1 ∧ As key r.2 r.1 ∧ 1 ≤ r.1 := by
  unfold kas_tail3
  exact Rn.bind (Rn.mono (fun m ⟨a1, a2, a3, _⟩ => ⟨a1, a2, by omega⟩) (asc_ok (N - n) n (h.rev (Nat.le_refl n)) (d.turn h) h1 (by have := h.le; omega)))
theorem part_ok {p : Array Nat} {n : Nat} (h : Stp N p n) (d : Da key p n) (h1 : 1 ≤ n) (hn : n < N) (hk : ∀ a, a < n → key n < key (Pv p a)) : Rn key N (kas_descPart n N p) fun r => Stp N r.2 r.1 ∧ As key r.2 r.1 ∧ 1 ≤ r.1 := by
  unfold kas_descPart
  refine Rn.bind (Rn.mono ?_ (desc_ok (N - (n + 1)) (h.one hn) (d.below h hn hk) (by omega)))
  rintro ⟨p', n', q'⟩ ⟨h', d'⟩
  have ql := d'.ql
  have ql : q' < n' := ql
  show Rn key N (if q' > 0 then kas_tail3 n' N (kas_rev p' (n' - (q' + 1)) n') else kas_tail3 n' N p') _
  by_cases z : q' > 0
  · rw [if_pos z]
    exact tail3_ok (h'.rev (Nat.le_refl _)) (d'.all h') (by omega)
  · rw [if_neg z]
    have : q' = 0 := by omega
    subst this
    exact tail3_ok h' d'.zero (by omega)
theorem count_ok {p : Array Nat} (h : Stp N p 1) (hN : 1 ≤ N) : Rn key N (kas_count N p) fun r => Stp N r.2 r.1 ∧ As key r.2 r.1 ∧ 1 ≤ r.1 := by
  unfold kas_count
  refine Rn.bind (Rn.mono ?_ (asc_ok (N - 1) 1 h (fun a b h1 h2 => by omega) (Nat.le_refl _) (by omega)))
  intro n ⟨h', a', n1, lo⟩
  have le := h'.le
  by_cases e : (n == N) = true
  · rw [if_pos e]
    exact ⟨h', a', n1⟩
  · rw [if_neg e]
    have hn : n < N := by
      have : n ≠ N := fun c => e (by simp [c])
      omega
    have lo := lo hn
    rw [h'.tl n (Nat.le_refl _) hn] at lo
    by_cases z : n > 1
    · rw [if_pos z]
      show _ < N ∧ _ < N ∧ Rn key N _ _
      rw [pv_getD, pv_getD]
      refine ⟨h'.lt (by omega), h'.lt (by omega), ?_⟩
      by_cases c : key (Pv p 0) < key (Pv p (n - 1))
      · simp only [decide_eq_true c, ↓reduceIte]
        exact ⟨h', a', n1⟩
      · simp only [decide_eq_false c, Bool.false_eq_true, ↓reduceIte]
        have hz : n ≤ p.size := by rw [h'.sz]; exact le
        have mono : ∀ a b, a ≤ b → b < n → key (Pv p a) ≤ key (Pv p b) := fun a b hab hb => by
          by_cases e : a = b
          · rw [e]
            exact Int.le_refl _
          · rcases a' a b (by omega) hb with x | x <;> omega
        have alike : ∀ a, a < n → key (Pv p a) = key (Pv p (n - 1)) := fun a ha => by
          have := mono 0 a (by omega) ha
          have := mono a (n - 1) (by omega) (by omega)
          omega
        refine part_ok (h'.rev (Nat.le_refl n)) (fun a b hab hb => ?_) n1 hn fun a ha => ?_
        · rw [pv_rev hz, pv_rev hz, if_pos ⟨Nat.zero_le _, hb⟩, if_pos ⟨Nat.zero_le _, by omega⟩]
          exact a' _ _ (by omega) (by omega)
        · rw [pv_rev hz, if_pos ⟨Nat.zero_le _, ha⟩, alike _ (by omega)]
          exact lo
    · rw [if_neg z]
      have : n = 1 := by omega
      subst this
      exact part_ok h' (fun a b h1 h2 => by omega) n1 hn fun a ha => by
        have : a = 0 := by omega
        subst this
        exact lo
theorem place_ok {p : Array Nat} {k : Nat} (h : Stp N p k) (ha : As key p k) (hk : k < N) : ∀ (f l r : Nat), l ≤ r → r ≤ k → r ≤ l + f → (∀ a, a < l → ¬ key k < key (Pv p a)) → (∀ a, r ≤ a → a < k → key k < key (Pv p a)) → Rn key N (kas_place p k f l r) fun m => m ≤ k ∧ (∀ a, a < m → ¬ key k < key (Pv p a)) ∧ ∀ a, m ≤ a → a < k → key k < key (Pv p a)
  | 0, l, r, lr, rk, rf, lo, hi => ⟨by omega, lo, fun a h1 h2 => hi a (by omega) h2⟩
  | f + 1, l, r, lr, rk, rf, lo, hi => by
    unfold kas_place
    by_cases c : l ≥ r
    · rw [if_pos c]
      exact ⟨by omega, lo, fun a h1 h2 => hi a (by omega) h2⟩
    · rw [if_neg c]
      show _ < N ∧ _ < N ∧ Rn key N _ _
      rw [pv_getD, pv_getD]
      refine ⟨h.lt hk, h.lt (by omega), ?_⟩
      rw [h.tl k (Nat.le_refl _) hk]
      have mono : ∀ a b, a ≤ b → b < k → key (Pv p a) ≤ key (Pv p b) := fun a b hab hb => by
        by_cases e : a = b
        · rw [e]
          exact Int.le_refl _
        · rcases ha a b (by omega) hb with x | x <;> omega
      by_cases d : key k < key (Pv p ((l + r) / 2))
      · simp only [decide_eq_true d, ↓reduceIte]
        refine place_ok h ha hk f l ((l + r) / 2) (by omega) (by omega) (by omega) lo fun a h1 h2 => ?_
        have := mono _ _ h1 h2
        omega
      · simp only [decide_eq_false d, Bool.false_eq_true, ↓reduceIte]
        refine place_ok h ha hk f ((l + r) / 2 + 1) r (by omega) rk (by omega) (fun a h1 => ?_) hi
        have := mono a ((l + r) / 2) (by omega) (by omega)
        omega
theorem bin_ok : ∀ (f : Nat) {p : Array Nat} {k : Nat}, Stp N p k → As key p k → k + f = N → Rn key N (kas_bin f p k) fun p' => Stp N p' N ∧ As key p' N
  | 0, p, k, h, ha, e => by
    have : k = N := by omega
    subst this
    exact ⟨h, ha⟩
  | f + 1, p, k, h, ha, e => by
    have hk : k < N := by omega
    unfold kas_bin
    refine Rn.bind (Rn.mono ?_ (place_ok h ha hk k 0 k (Nat.zero_le _) (Nat.le_refl _) (by omega) (fun a h1 => by omega) fun a h1 h2 => by omega))
    intro m ⟨mk, lo, hi⟩
    have hs : k < p.size := by rw [h.sz]; exact hk
    have at' := pv_bub hs (d := k - m) (by omega)
    have e1 : k - (k - m) = m := by omega
    rw [e1] at at'
    have en := h.tl k (Nat.le_refl _) hk
    rw [en] at at'
    refine bin_ok f ⟨by rw [bubble_size, h.sz], fun a h1 h2 => ?_, fun a h1 => ?_, by omega⟩ (fun a b hab hb => ?_) (by omega)
    · rw [at', if_neg (by omega), if_neg (by omega)]
      exact h.tl a (by omega) h2
    · rw [at']
      split
      · omega
      · split
        · have := h.hd (a - 1) (by omega)
          omega
        · have := h.hd a (by omega)
          omega
    · rw [at', at']
      by_cases ca : a = m
      · rw [if_pos ca, if_neg (by omega), if_pos (by omega)]
        exact .inl (hi (b - 1) (by omega) (by omega))
      · rw [if_neg ca]
        by_cases cb : b = m
        · rw [if_pos cb, if_neg (by omega)]
          have := lo a (by omega)
          have l := h.hd a (by omega)
          by_cases d : key (Pv p a) < key k
          · exact .inl d
          · exact .inr ⟨by omega, l⟩
        · rw [if_neg cb]
          by_cases c1 : m < a
          · rw [if_pos (by omega), if_pos (by omega)]
            exact ha _ _ (by omega) (by omega)
          · rw [if_neg (by omega)]
            by_cases c2 : m < b
            · rw [if_pos (by omega)]
              exact ha _ _ (by omega) (by omega)
            · rw [if_neg (by omega)]
              exact ha a b hab (by omega)
theorem pv_rng {N k : Nat} (h : k < N) : Pv (List.toArray (List.range N)) k = k := by
  unfold Pv
  simp [h]
theorem sort_ok (hN : 1 ≤ N) : Rn key N (kas_sort N) fun p => Stp N p N ∧ As key p N := by
  unfold kas_sort
  refine Rn.bind (Rn.mono ?_ (count_ok (p := List.toArray (List.range N)) ⟨by simp, fun k _ h2 => pv_rng h2, fun k hk => by
    have : k = 0 := by omega
    subst this
    rw [pv_rng (by omega)]
    omega, hN⟩ hN))
  rintro ⟨m, p⟩ ⟨h, ha, m1⟩
  have h : Stp N p m := h
  have m1 : 1 ≤ m := m1
  show Rn key N (if m < N then kas_bin (N - max m 1) p (max m 1) else .ret p) _
  have le := h.le
  by_cases c : m < N
  · rw [if_pos c, Nat.max_eq_left m1]
    exact bin_ok (N - m) h ha (by omega)
  · rw [if_neg c]
    have : m = N := by omega
    subst this
    exact ⟨h, ha⟩
end
end Lw
end
section
set_option Elab.async false
set_option linter.all false
set_option maxRecDepth 100000
set_option maxHeartbeats 4000000
namespace Lw
open PySem PySem.Spec PySem.W PyProof.Rows L2
def Stb (key : Nat → Int) (n : Nat) (p : List Nat) : Prop := p.length = n ∧ (∀ i ∈ p, i < n) ∧ p.Pairwise (Lt key)
def Kp (a : Addr) (h h' : Heap) : Prop := ∀ b o, b ≠ a → h.get? b = some o → h'.get? b = some o
def Ks (key : Nat → Int) (ks : List Value) : Prop := ∀ i k, ks[i]? = some k → ∃ t, k = Value.int (key i) t
theorem Ks.snoc {key : Nat → Int} {ks : List Value} {t : Tok} (h : Ks key ks) : Ks key (ks ++ [Value.int (key ks.length) t]) := fun i k e => by
  rw [List.getElem?_append] at e
  split at e
  · exact h i k e
  · rename_i c
    cases q : i - ks.length with
    | zero =>
      rw [q] at e
      have e : Value.int (key ks.length) t = k := by simpa using e
      have : i = ks.length := by omega
      rw [this]
      exact ⟨t, e.symm⟩
    | succ m =>
      rw [q] at e
      simp at e
def outL (vs : List Value) (p : List Nat) : List Value := p.map fun i => vs.getD i Value.none
theorem outL_rng (vs : List Value) : outL vs (List.range vs.length) = vs := by
  refine List.ext_getElem (by simp [outL]) fun i h1 h2 => ?_
  simp [outL, h2]
theorem stb_rng {key : Nat → Int} {n : Nat} (h : n < 2) : Stb key n (List.range n) := by
  refine ⟨List.length_range, fun i hi => List.mem_range.mp hi, ?_⟩
  match n, h with
  | 0, _ => exact .nil
  | 1, _ => exact List.pairwise_singleton _ _
theorem stb_of {key : Nat → Int} {n : Nat} {p : Array Nat} (h : Stp n p n) (ha : As key p n) : Stb key n p.toList := by
  have pv : ∀ i (hi : i < p.toList.length), p.toList[i] = Pv p i := fun i hi => by
    have hi' : i < p.size := by simpa using hi
    unfold Pv
    simp [hi']
  refine ⟨by rw [Array.length_toList, h.sz], fun i hi => ?_, List.pairwise_iff_getElem.mpr fun i j hi hj hij => ?_⟩
  · obtain ⟨k, hk, rfl⟩ := List.getElem_of_mem hi
    rw [pv k hk]
    exact h.lt (by rw [Array.length_toList, h.sz] at hk; exact hk)
  · rw [pv i hi, pv j hj]
    exact ha i j hij (by rw [Array.length_toList, h.sz] at hj; exact hj)
section
variable {prog : Program} {w : World} {A : Around} {E : Value → Shared → Prop} {s : Shared} {a kS : Addr} {vs : List Value}
theorem tail_at {st : SortSt} {e e1 : Nat} {ks out : List Value} {P : PySem.Fin → Shared → Prop} (hne : kS ≠ a) (hk : s.heap.get? kS = some (seqObj "list" (List.toArray ks) e)) (ha : s.heap.get? a = some (seqObj "list" #[] e1))
    (hout : (arrOf st).map (·.2) = List.toArray out) (hz : out.length < 64) (hkz : ks.length < 64) (hf : failedOf st = none)
    (h : ∀ h' n, (∀ b o, b ≠ a → b ≠ kS → s.heap.get? b = some o → h'.get? b = some o) → h'.get? a = some (seqObj "list" (List.toArray out) n) → P (.done (.ret .none)) { s with heap := h' }) :
    wpAny (model prog w) A (ksk_tail a false e1 (.ref kS) st) P E s := by
  have s1 := Heap.SameBut.update s.heap kS (Obj.mapSeq fun _ => (#[] : Array Value))
  have ha1 : (s.heap.update kS (Obj.mapSeq fun _ => (#[] : Array Value))).get? a = some (seqObj "list" #[] e1) := (s1.2 a (Ne.symm hne)).trans ha
  have s2 := Heap.SameBut.update (s.heap.update kS (Obj.mapSeq fun _ => (#[] : Array Value))) a (Obj.mapSeq fun _ => List.toArray out)
  obtain ⟨c2, hc2⟩ : ∃ c2, ((s.heap.update kS (Obj.mapSeq fun _ => (#[] : Array Value))).update a (Obj.mapSeq fun _ => List.toArray out)).get? a = some (seqObj "list" (List.toArray out) c2) := ⟨_, get?_update_seq ha1 fun _ => List.toArray out⟩
  unfold ksk_tail
  try dsimp only
  rw [hout]
  refine wpAny_bind (listUpdate_at hk rfl ?_ (by rw [List.size_toArray, sizeLine_eq]; omega) (Nat.zero_le _))
  refine wpAny_bind (wpAny_letGo ?_)
  refine wpAny_bind (seqEpoch_at ha1 rfl ?_)
  refine wpAny_bind (listUpdate_at ha1 rfl ?_ (Nat.zero_le _) (by show (List.toArray out).size ≤ _; rw [List.size_toArray, sizeLine_eq]; omega))
  rw [hf]
  simp only [bne_self_eq_false, Bool.false_eq_true, if_false]
  exact wpAny_pure (h _ c2 (fun b o n1 n2 q => (s2.2 b n1).trans ((s1.2 b n2).trans q)) hc2)
theorem end_at {key : Nat → Int} {e e1 : Nat} {ks : List Value} {P : PySem.Fin → Shared → Prop} (hne : kS ≠ a) (hk : s.heap.get? kS = some (seqObj "list" (List.toArray ks) e)) (ha : s.heap.get? a = some (seqObj "list" #[] e1)) (hl : ks.length = vs.length) (h64 : vs.length < 64) (hks : Ks key ks)
    (h : ∀ h' n p, Stb key vs.length p → (∀ b o, b ≠ a → b ≠ kS → s.heap.get? b = some o → h'.get? b = some o) → h'.get? a = some (seqObj "list" (List.toArray (outL vs p)) n) → P (.done (.ret .none)) { s with heap := h' }) :
    wpAny (model prog w) A (ksk_end a false vs.toArray e1 (.ref kS) (List.toArray ks)) P E s := by
  unfold ksk_end
  try dsimp only
  simp only [Bool.false_eq_true, if_false]
  by_cases h2 : vs.length < 2
  · have h2' : vs.toArray.size < 2 := by rwa [List.size_toArray]
    rw [if_pos h2', if_pos h2']
    refine wpAny_bind (wpAny_pure ?_)
    rw [StateT.run_pure]
    refine wpAny_bind (wpAny_pure ?_)
    try dsimp only
    refine tail_at (out := outL vs (List.range vs.length)) hne hk ha ?_ (by rw [outL_rng]; exact h64) (by omega) rfl (fun h' n => h h' n _ (stb_rng h2))
    rw [outL_rng]
    show ((List.toArray ks).zip vs.toArray).map (·.2) = _
    refine Array.ext (by simp [hl]) fun i h1 h2 => ?_
    simp
  · have h2' : ¬ vs.toArray.size < 2 := by rwa [List.size_toArray]
    rw [if_neg h2', if_neg h2']
    refine wpAny_bind (kas_kind (T := .type "int") (by omega) (fun v hv => ?_) rfl rfl ?_)
    · obtain ⟨i, hi, rfl⟩ := List.getElem_of_mem hv
      obtain ⟨t, e⟩ := hks i _ (List.getElem?_eq_getElem hi)
      rw [e]
      exact .now
    · refine wpAny_bind (wpAny_mono (kat_run (E := E) (Q := fun st' s' => s' = s ∧ ∃ p : Array Nat, Stb key vs.length p.toList ∧ (arrOf st').map (·.2) = List.toArray (outL vs p.toList) ∧ failedOf st' = none)
        (G := fun p s' => s' = s ∧ Stb key vs.length p.toList) hl (by omega) h64 (fun p' st' s' a1 a2 a3 ⟨a4, a5⟩ => ⟨a4, p', a5, kat_snds hl a2, a3⟩) ?_) (fun r s' hq => ?_) fun _ _ x => x)
      · refine Rn.wp (key := key) (n := vs.length) (fun i j hi hj C c => ?_) (Rn.mono (fun p hp => ⟨rfl, stb_of hp.1 hp.2⟩) (sort_ok (by omega)))
        unfold kas_ask
        have gi : ∀ i, i < vs.length → ∃ t, ks.getD i Value.none = .int (key i) t := fun i hi => by
          have hi' : i < ks.length := by omega
          obtain ⟨t, e⟩ := hks i _ (List.getElem?_eq_getElem hi')
          exact ⟨t, by rw [List.getD_eq_getElem?_getD, List.getElem?_eq_getElem hi', Option.getD_some, e]⟩
        obtain ⟨t1, e1⟩ := gi i hi
        obtain ⟨t2, e2⟩ := gi j hj
        rw [e1, e2]
        exact kat_lt_int c
      · obtain ⟨rfl, p, hs, ho, hf⟩ := hq
        obtain ⟨⟨⟩, st'⟩ := r
        try dsimp only
        exact tail_at hne hk ha ho (by unfold outL; rw [List.length_map, hs.1]; exact h64) (by omega) hf fun h' n => h h' n _ hs
theorem keyed {key : Nat → Int} {f : Value} {n : Nat} {P : PySem.Fin → Shared → Prop} (ho : s.heap.get? a = some (seqObj "list" vs.toArray n)) (h64 : vs.length < 64)
    (hk : ∀ (i : Nat) (v : Value) (h1 : Heap) (t1 : Nat), vs[i]? = some v → Kp a s.heap h1 → ∀ Q : Value → Shared → Prop, (∀ h2 t2 t, (∀ b o, h1.get? b = some o → h2.get? b = some o) → Q (.int (key i) t) { s with heap := h2, toks := t2 }) →
      wpAny (model prog w) A (call f [v]) Q (fun _ _ => False) { s with heap := h1, toks := t1 })
    (h : ∀ h' t n p, Stb key vs.length p → Kp a s.heap h' → h'.get? a = some (seqObj "list" (List.toArray (outL vs p)) n) → P (.done (.ret .none)) { s with heap := h', toks := t }) :
    wpAny (model prog w) A (ksk_tree a f false) P E s := by
  have al : a < s.heap.objs.size := Heap.lt_size ho
  have s1 := Heap.SameBut.update s.heap a (Obj.mapSeq fun _ => (#[] : Array Value))
  obtain ⟨e1, ho1⟩ : ∃ e1, (s.heap.update a (Obj.mapSeq fun _ => (#[] : Array Value))).get? a = some (seqObj "list" #[] e1) := ⟨_, get?_update_seq ho fun _ => #[]⟩
  have hkS : ((s.heap.update a (Obj.mapSeq fun _ => (#[] : Array Value))).push (seqObj "tuple" vs.toArray 0)).objs.size = s.heap.objs.size + 1 := by rw [size_push', Heap.size_update]
  unfold ksk_tree
  refine wpAny_bind (listItems_at ho rfl ?_)
  refine wpAny_bind (listUpdate_at ho rfl ?_ (by rw [List.size_toArray, sizeLine_eq]; omega) (Nat.zero_le _))
  refine wpAny_bind (seqEpoch_at ho1 rfl ?_)
  refine wpAny_bind (wpAny_newTuple ?_ (by show vs.length ≤ _; rw [sizeLine_eq]; omega))
  refine wpAny_bind (wpAny_newList ?_ (Nat.zero_le _))
  refine wpAny_holding ?_
  have kne : ((s.heap.update a (Obj.mapSeq fun _ => (#[] : Array Value))).push (seqObj "tuple" vs.toArray 0)).objs.size ≠ a := by rw [hkS]; exact Nat.ne_of_gt (Nat.lt_succ_of_lt al)
  have kk := Heap.get?_push_size ((s.heap.update a (Obj.mapSeq fun _ => (#[] : Array Value))).push (seqObj "tuple" vs.toArray 0)) (o := seqObj "list" #[] 0) rfl
  have ka : (((s.heap.update a (Obj.mapSeq fun _ => (#[] : Array Value))).push (seqObj "tuple" vs.toArray 0)).push (seqObj "list" #[] 0)).get? a = some (seqObj "list" #[] e1) := Heap.get?_push_of_some _ (Heap.get?_push_of_some _ ho1)
  have kp : Kp a s.heap (((s.heap.update a (Obj.mapSeq fun _ => (#[] : Array Value))).push (seqObj "tuple" vs.toArray 0)).push (seqObj "list" #[] 0)) := fun b o ne e =>
    Heap.get?_push_of_some _ (Heap.get?_push_of_some _ ((s1.2 b ne).trans e))
  have kold : s.heap.objs.size ≤ ((s.heap.update a (Obj.mapSeq fun _ => (#[] : Array Value))).push (seqObj "tuple" vs.toArray 0)).objs.size := by rw [hkS]; exact Nat.le_succ _
  show wpAny (model prog w) A (ksk_rest a f false vs.toArray e1 (.ref ((s.heap.update a (Obj.mapSeq fun _ => (#[] : Array Value))).push (seqObj "tuple" vs.toArray 0)).objs.size)) P E { s with heap := ((s.heap.update a (Obj.mapSeq fun _ => (#[] : Array Value))).push (seqObj "tuple" vs.toArray 0)).push (seqObj "list" #[] 0) }
  generalize ((s.heap.update a (Obj.mapSeq fun _ => (#[] : Array Value))).push (seqObj "tuple" vs.toArray 0)).push (seqObj "list" #[] 0) = g at kk ka kp
  generalize ((s.heap.update a (Obj.mapSeq fun _ => (#[] : Array Value))).push (seqObj "tuple" vs.toArray 0)).objs.size = kS at kk kne kold
  unfold ksk_rest
  refine wpAny_bind (wpAny_rule ?_)
  first
    | rw [List.forIn_toArray]
    | (rw [← Array.forIn_toList]; simp only [List.toList_toArray])
    | rw [← Array.forIn_toList]
  refine wpAny_bind (ksk_fold (fun i s' => ∃ h' t ks e, s' = { s with heap := h', toks := t } ∧ Kp a s.heap h' ∧ h'.get? a = some (seqObj "list" #[] e1) ∧ h'.get? kS = some (seqObj "list" (List.toArray ks) e) ∧ ks.length = i ∧ Ks key ks) vs 0 _ ⟨g, s.toks, [], 0, rfl, kp, ka, kk, rfl, fun i k e => by simp at e⟩ (fun j x s' hx ⟨h', t, ks, e, es, k1, k2, k3, k4, k5⟩ => ?_) fun s' ⟨h', t, ks, e, es, k1, k2, k3, k4, k5⟩ => ?_)
  · subst es
    rw [Nat.zero_add] at k4
    refine wpAny_bind (wpAny_attempt (wpAny_mono (hk j x h' t hx k1 (fun k s'' => ∃ h2 t2 tk, k = .int (key j) tk ∧ s'' = { s with heap := h2, toks := t2 } ∧ ∀ b o, h'.get? b = some o → h2.get? b = some o) fun h2 t2 tk kk => ⟨h2, t2, tk, rfl, rfl, kk⟩) (fun k s'' hq => ?_) fun _ _ x => x.elim))
    obtain ⟨h2, t2, tk, rfl, rfl, kk2⟩ := hq
    have jl : j < vs.length := (List.getElem?_eq_some_iff.mp hx).1
    have ea : (List.toArray ks).push (Value.int (key j) tk) = List.toArray (ks ++ [Value.int (key j) tk]) := by simp
    have s3 := Heap.SameBut.update h2 kS (Obj.mapSeq (·.push (Value.int (key j) tk)))
    obtain ⟨c2, hc2⟩ : ∃ c2, (h2.update kS (Obj.mapSeq (·.push (Value.int (key j) tk)))).get? kS = some (seqObj "list" (List.toArray (ks ++ [Value.int (key j) tk])) c2) := ⟨_, by rw [← ea]; exact get?_update_seq (kk2 _ _ k3) (·.push (Value.int (key j) tk))⟩
    try dsimp only
    refine wpAny_bind (listUpdate_at (kk2 _ _ k3) rfl ?_ (by rw [List.size_toArray, sizeLine_eq]; omega) (Nat.le_trans (Nat.le_of_eq (Array.size_push ..)) (by rw [List.size_toArray, sizeLine_eq]; omega)))
    refine wpAny_pure ⟨rfl, _, t2, ks ++ [Value.int (key j) tk], c2, rfl, fun b o ne q => (s3.2 b ?_).trans (kk2 _ _ (k1 b o ne q)), (s3.2 a (Ne.symm kne)).trans (kk2 _ _ k2), hc2, by rw [List.length_append, k4]; simp, ?_⟩
    · intro e
      exact absurd (Heap.lt_size q) (by rw [e]; exact Nat.not_lt.mpr kold)
    · have := k5.snoc (t := tk)
      rwa [k4] at this
  · subst es
    rw [Nat.zero_add] at k4
    refine wpAny_bind (listItems_at k3 rfl ?_)
    refine end_at (key := key) kne k3 k2 k4 h64 k5 fun h2 n2 p hp kk2 hc => h h2 t n2 p hp (fun b o ne q => kk2 b o ne ?_ (k1 b o ne q)) hc
    intro e
    exact absurd (Heap.lt_size q) (by rw [e]; exact Nat.not_lt.mpr kold)
theorem sortedK {key : Nat → Int} {f l : Addr} {Q : Value → Shared → Prop} (hl : s.heap.IsList l vs.toArray) (h64 : vs.length < 64)
    (hk : ∀ (i : Nat) (v : Value) (h1 : Heap) (t1 : Nat), vs[i]? = some v → (∀ b o, s.heap.get? b = some o → h1.get? b = some o) → ∀ Q : Value → Shared → Prop, (∀ h2 t2 t, (∀ b o, h1.get? b = some o → h2.get? b = some o) → Q (.int (key i) t) { s with heap := h2, toks := t2 }) →
      wpAny (model prog w) A.in1.in1 (call (.ref f) [v]) Q (fun _ _ => False) { s with heap := h1, toks := t1 })
    (h : ∀ D h' t n p, s.heap.objs.size ≤ D → Stb key vs.length p → (∀ b o, s.heap.get? b = some o → h'.get? b = some o) → h'.get? D = some (seqObj "list" (List.toArray (outL vs p)) n) → Q (.ref D) { s with heap := h', toks := t }) :
    wpAny (model prog w) A (call (.builtin "sorted") [.ref l] [(Str.ofString "key", .ref f)]) Q E s := by
  refine call_function_entry_kw kind_sorted plain_sorted entry_sorted (ksk_s1 _ _) ?_
  unfold Builtin.«sorted»
  refine wpAny_bind (m := checkCount "sorted" 1 1 _) (wpAny_pure ?_)
  refine wpAny_bind (collect_list hl ?_ (by rw [sizeLine_eq]; omega))
  refine wpAny_bind (wpAny_newList ?_ (by rw [sizeLine_eq]; omega))
  have hsz : ((s.heap.push (seqObj "list" #[] 0)).update s.heap.objs.size (Obj.mapSeq (· ++ vs.toArray))).objs.size = s.heap.objs.size + 1 := by
    rw [Heap.size_update, size_push']
  have hoL : (((s.heap.push (seqObj "list" #[] 0)).update s.heap.objs.size (Obj.mapSeq (· ++ vs.toArray))).push (seqObj "list" vs.toArray 0)).get? (s.heap.objs.size + 1) = some (seqObj "list" vs.toArray 0) := by
    rw [← hsz]; exact Heap.get?_push_size _ rfl
  have keep : ∀ b o, s.heap.get? b = some o → (((s.heap.push (seqObj "list" #[] 0)).update s.heap.objs.size (Obj.mapSeq (· ++ vs.toArray))).push (seqObj "list" vs.toArray 0)).get? b = some o := fun b o q => by
    have hlt : b < s.heap.objs.size := Heap.lt_size q
    rw [Heap.get?_push_ne _ _ _ (by rw [hsz]; exact Nat.ne_of_lt (Nat.lt_succ_of_lt hlt)), Heap.get?_update_ne _ _ _ _ (Nat.ne_of_lt hlt), Heap.get?_push_ne _ _ _ (Nat.ne_of_lt hlt)]
    exact q
  show wpAny _ _ _ _ _ { s with heap := ((s.heap.push (seqObj "list" #[] 0)).update s.heap.objs.size (Obj.mapSeq (· ++ vs.toArray))).push (seqObj "list" vs.toArray 0) }
  rw [hsz]
  have ne : ∀ b o, s.heap.get? b = some o → b ≠ s.heap.objs.size + 1 := fun b o e => Nat.ne_of_lt (Nat.lt_succ_of_lt (Heap.lt_size e))
  refine wpAny_bind (wpAny_holding (wpAny_call_entry_kw slot_list_sort ⟨_, hoL, rfl⟩ entry_list_sort ?body (ksk_l1 _ _)))
  case body =>
    show wpAny (model prog w) A.in1.in1 (Builtin.«list.sort» ⟨[.ref (s.heap.objs.size + 1)], [(Str.ofString "key", .ref f)]⟩) _ _ _
    rw [ksk_t1]
    refine keyed (s := { s with heap := ((s.heap.push (seqObj "list" #[] 0)).update s.heap.objs.size (Obj.mapSeq (· ++ vs.toArray))).push (seqObj "list" vs.toArray 0) }) (key := key) hoL h64 (fun i v h1 t1 hv k Q hq => hk i v h1 t1 hv (fun b o e => k b o (ne b o e) (keep b o e)) Q hq) fun h' t n p hp k hD => ?_
    exact ⟨_, rfl, wpAny_pure ⟨_, rfl, h _ h' t n p (Nat.le_succ _) hp (fun b o e => k b o (ne b o e) (keep b o e)) hD⟩⟩
end
abbrev lamB (v : Str) (p1 p2 p3 : Pos) : Expr := .Subscript (.Name v p1) (.Constant (.int 0) 0 p2) p3
abbrev lamP (v : Str) (p : Pos) : Arguments := { posonlyargs := [], args := [{ arg := v, annotation := none, pos := p }], vararg := none, kwonlyargs := [], kw_defaults := [], kwarg := none, defaults := [] }
abbrev lamS (v : Str) : Scope := { kind := .function, names := [(v, .local)], isGenerator := false, isCoroutine := false, more := [] }
section
variable {prog : Program} {w : World} {A : Around} {E : Value → Shared → Prop} {s : Shared}
theorem lam_call {v : Str} {p1 p2 p3 p4 : Pos} {name qual : Str} {pm ctv : Value} {c f a : Addr} {l : List Value} {x : Value} {Q : Value → Shared → Prop}
    (hroom : A.depth < recursionLimit) (ho : s.heap.get? f = some (kla_obj name qual (lamP v p4) (lamB v p1 p2 p3) (lamS v) [] pm c ctv)) (hcd : s.heap.CodeRec (.ref c) qual) (hnl : s.heap.NoLimit)
    (hd : (v == ("__debug__" : Str)) = false) (hb : bindArgs (kla_fn name qual (lamP v p4) (lamB v p1 p2 p3) (lamS v) [] pm (.ref c) ctv) ⟨[.ref a], []⟩ = pure [(v, .ref a)])
    (ht : IsTup s.heap a l.toArray) (hx : l[0]? = some x)
    (h : ∀ h' t, (∀ b o, s.heap.get? b = some o → h'.get? b = some o) → Q x { s with heap := h', toks := t }) :
    wpAny (model prog w) A (call (.ref f) [.ref a]) Q E s := by
  refine wpAny_call (kla_callFunE hroom ho rfl rfl rfl rfl hcd ?_)
  show wpAny (model prog w) A.in1 (bindArgs (kla_fn name qual (lamP v p4) (lamB v p1 p2 p3) (lamS v) [] pm (.ref c) ctv) ⟨[.ref a], []⟩) _ _ _
  rw [hb]
  have lk : (lamS v).names.lookup v = some .local := by
    show List.lookup v [(v, NameKind.local)] = _
    rw [List.lookup_cons, beq_self_eq_true]
  refine wpAny_pure (wpAny_newFunctionEnv (fun y hy => ?_) (fun y hy => ?_) (fun h1 hns hsb => ⟨hnl.fresh _ hsb, ?_⟩) rfl)
  · obtain rfl : y = (v, .local) := List.mem_singleton.mp hy
    exact fun z => nomatch z
  · obtain rfl : y = (v, .ref a) := List.mem_singleton.mp hy
    exact lk
  have hk1 : ∀ b o, s.heap.get? b = some o → h1.get? b = some o := fun b o e => hsb.extBut b o (Nat.ne_of_lt (Heap.lt_size e)) (Heap.get?_push_of_some _ e)
  show codeAny _ _ (.expr (lamB v p1 p2 p3) (envX qual (lamS v) s.heap.objs.size f (.ref c) [])) _ _
  refine kla_codeExpr (Subscript_ ?_)
  rw [eval_Name _ _ _ hd]
  refine wpAny_bind (wpAny_standAt (wpAny_loadName_local rfl lk hns (v := .ref a) ?_ ?_))
  · show List.lookup v [(v, Value.ref a)] = _
    rw [List.lookup_cons, beq_self_eq_true]
  · have ht1 : IsTup h1 a l.toArray := by
      obtain ⟨o, e1, e2⟩ := ht
      exact ⟨o, hk1 _ _ e1, e2⟩
    have l0 : 0 < l.length := (List.getElem?_eq_some_iff.mp hx).1
    refine wpAny_Constant_int ?_
    refine item_tupleL (j := 0) ht1 (by decide) (by decide) (by rw [seqIndex_of (by decide) (by omega)]; rfl) hx ?_
    exact h _ _ hk1
end
def CdAt (c : Addr) (q : Str) : HO := .ext fun h => h.CodeRec (.ref c) q
theorem cd_stay {c : Addr} {q : Str} {h1 h2 : Heap} (h : h1.CodeRec (.ref c) q) (k : ∀ o, h1.get? c = some o → h2.get? c = some o) : h2.CodeRec (.ref c) q := by
  obtain ⟨c', oc, vs, t, e, ho, r⟩ := h
  cases e
  exact ⟨c, oc, vs, t, rfl, k _ ho, r⟩
def TabOk (H : Hp) (P : Addr) (pos : Pos) (q : Str) : Prop := ∃ ps, H P = some (.tbl ps) ∧ TriplesOk ps.toList ∧ (codeAmong pos ps.toList = none ∨ ∃ c, codeAmong pos ps.toList = some (.ref c) ∧ H c = some (CdAt c q))
theorem TabOk.up {H H' : Hp} {P : Addr} {pos : Pos} {q : Str} (s : Same H H') (h : TabOk H P pos q) : TabOk H' P pos q := by
  obtain ⟨ps, h1, h2, h3⟩ := h
  refine ⟨ps, s _ _ h1, h2, h3.imp id ?_⟩
  rintro ⟨c, e1, e2⟩
  exact ⟨c, e1, s _ _ e2⟩
theorem triples_app {pos : Pos} {c : Value} : ∀ (l : List Value), TriplesOk l → TriplesOk (l ++ [rawInt pos.line, rawInt pos.col, c]) := fun l h => by
  fun_induction TriplesOk l with
  | case1 => exact trivial
  | case2 a t b u x rest ih => exact ih h
  | case3 => exact h.elim
def BmB (mg : Str → Option Value) (base : Heap) : Prop := ∃ (bm : Addr) (ob : Obj), mg "__builtins__" = some (.ref bm) ∧ bm ≠ builtinsNs ∧ base.get? bm = some ob ∧ ob.cls = .type "module" ∧ ob.dict = some builtinsNs ∧ ob.data = .plain
structure TabF (K : PySem.W.Frag) (mg : Str → Option Value) (base : Heap) (cdv : Value) (P : Addr) : Prop where
  c : ∃ c, cdv = .ref c ∧ codeHdIn K c P = true
  bm : BmB mg base
section
variable {X : Cx} {pins : List (Addr × Obj)} {σ : L2.St} {H : Hp} {s : Shared} {P : Addr} {lp : Pos} {q : Str}
theorem bm_at (tf : TabF X.K X.mg X.base X.env.code P) (I : Inv X pins σ H s) {ps : Array Value} (e : s.heap.get? P = some (tabObj ps)) : s.heap.BuiltinsAt X.mg P := by
  obtain ⟨bm, ob, h1, h2, h3, h4, h5, h6⟩ := tf.bm
  have e2 := I.bk _ _ h3
  refine ⟨bm, _, h1, h2, fun z => ?_, fun z => ?_, e2, h4, h5, h6⟩
  · obtain ⟨o, es, ep, ho, hd, _⟩ := I.mod.glob
    rw [z, I.bk _ _ ho] at e2
    cases e2
    rw [hd] at h6
    cases h6
  · rw [z, e] at e2
    cases e2
    cases h4
theorem tab_step {h' : Heap} {t' : Nat} {ps more : Array Value} {c : Addr} (I : Inv X pins σ H s) (e : H P = some (.tbl ps)) (k : Heap.ExtBut P s.heap h') (hP : h'.get? P = some (tabObj (ps ++ more))) (hc : s.heap.objs.size ≤ c) (hr : h'.CodeRec (.ref c) q) :
    Inv X pins σ (upd (upd H P (.tbl (ps ++ more))) c (CdAt c q)) { s with heap := h', toks := t' } := by
  have hcn : H c = none := I.hok.fresh hc
  have Pl : P < s.heap.objs.size := I.hok.lt e
  have Pc : P ≠ c := Nat.ne_of_lt (Nat.lt_of_lt_of_le Pl hc)
  have up : ∀ b o, b ≠ P → H b = some o → upd (upd H P (.tbl (ps ++ more))) c (CdAt c q) b = some o := fun b o n x => by
    rw [upd_ne (ne_of_none x hcn), upd_ne n]
    exact x
  have nP : ∀ b, H b = none → b ≠ P := fun b n z => by
    rw [z, e] at n
    cases n
  refine I.un ⟨fun b o x n _ _ => k b o (nP b n) x, fun b o x n _ _ => ⟨o.slots, k b o (nP b n) x⟩, fun b o x n _ => ?_, fun b o x _ => ?_, fun b xs x => ?_, fun b o u x => ?_, fun b qs x => ?_⟩ fun b u x => ?_
  · rw [upd_ne (Nat.ne_of_lt (Nat.lt_of_lt_of_le (Heap.lt_size x) hc)), upd_ne (nP b n)]
    exact n
  · by_cases z : b = P
    · rw [z]
      exact ⟨_, hP⟩
    · exact ⟨_, k b o z x⟩
  · exact up b _ (fun z => by rw [z, e] at x; cases x) x
  · exact up b _ (fun z => by rw [z, e] at x; cases x) x
  · by_cases z : b = P
    · rw [z, e] at x
      cases x
      rw [z, upd_ne Pc, upd_same]
      exact ⟨more, rfl⟩
    · exact ⟨#[], by rw [up b _ z x]; simp⟩
  · by_cases z : b = c
    · rw [z, upd_same] at x
      cases x
      obtain ⟨c', oc, vs, t, e', ho, r⟩ := id hr
      cases e'
      rw [z]
      exact ⟨hr, ⟨oc, ho⟩, fun h1 h2 a b => cd_stay a b⟩
    · rw [upd_ne z] at x
      by_cases z2 : b = P
      · rw [z2, upd_same] at x
        cases x
        rw [z2]
        exact hP
      · rw [upd_ne z2] at x
        refine (I.hok b u x).stay (fun d v hd y => k d v ?_ y) (fun d y => up d _ (fun z => by rw [z, e] at y; cases y) y) fun d xs y => up d _ (fun z => by rw [z, e] at y; cases y) y
        rcases hd with rfl | hd
        · exact z2
        · intro z
          rw [z, e] at hd
          cases hd
theorem lam_make {v : Str} {p1 p2 p3 p4 : Pos} {Q : Value → Shared → Prop} (tf : TabF X.K X.mg X.base X.env.code P) (I : Inv X pins σ H s) (hT : TabOk H P lp (X.env.qual ++ "<lambda>"))
    (h : ∀ f c H' s' pm ctv, Inv X pins σ H' s' → (∀ b o, b ≠ P → H b = some o → H' b = some o) → TabOk H' P lp (X.env.qual ++ "<lambda>") → s'.heap.get? f = some (kla_obj "<lambda>" (X.env.qual ++ "<lambda>") (lamP v p4) (lamB v p1 p2 p3) (lamS v) [] pm c ctv) → s'.heap.CodeRec (.ref c) (X.env.qual ++ "<lambda>") → Q (.ref f) s') :
    wpAny (model X.prog X.w) X.A (eval (.Lambda (lamP v p4) (lamB v p1 p2 p3) (lamS v) lp) X.env) Q X.xe s := by
  obtain ⟨ps, e, tr, hT⟩ := hT
  obtain ⟨c, ec, hd⟩ := tf.c
  have eP : s.heap.get? P = some (tabObj ps) := I.hok P _ e
  have C : CodeHd s.heap c P := codeHd_of_K I.kIn hd
  have G : s.heap.Ns mainGlobals X.mg := I.mod.glob.keeps I.bk
  have hcl : closureFor (lamS v) X.env = pure [] := rfl
  refine kla_eval rfl ?_
  rcases hT with hn | ⟨c', hc', ec'⟩
  · have gP : mainGlobals ≠ P := fun z => by
      obtain ⟨o, es, ep, ho, hd, _⟩ := G
      rw [z, eP] at ho
      cases ho
      cases hd
    refine kla_makeFunction hcl I.ok.glob G ec C eP tr hn gP (bm_at tf I eP) fun c' ctv h' tk k1 k2 k3 k4 k5 => ?_
    have I2 := tab_step (t' := tk) I e k1 k5 k2 k4
    have I3 := I2.kept (h' := h'.push (kla_obj "<lambda>" (X.env.qual ++ "<lambda>") (lamP v p4) (lamB v p1 p2 p3) (lamS v) [] ((X.mg "__name__").getD .none) c' ctv)) (t' := tk) fun b u x => Heap.get?_push_of_some _ x
    have hcn : H c' = none := I.hok.fresh k2
    refine h _ c' _ _ _ ctv I3 (fun b o n x => by rw [upd_ne (ne_of_none x hcn), upd_ne n]; exact x) ⟨ps ++ #[rawInt lp.line, rawInt lp.col, .ref c'], ?_, ?_, .inr ⟨c', ?_, upd_same⟩⟩ (Heap.get?_push_size _ rfl) ?_
    · rw [upd_ne (ne_of_none e hcn), upd_same]
    · rw [Array.toList_append]
      exact triples_app _ tr
    · rw [Array.toList_append]
      exact codeAmong_snoc _ tr hn
    · exact cd_stay k4 fun o x => Heap.get?_push_of_some _ x
  · refine kla_makeFunctionHit hcl I.ok.glob G ec C eP tr hc' (bm_at tf I eP) fun ctv h' tk k1 k2 => ?_
    have I3 := I.kept (h' := h'.push (kla_obj "<lambda>" (X.env.qual ++ "<lambda>") (lamP v p4) (lamB v p1 p2 p3) (lamS v) [] ((X.mg "__name__").getD .none) c' ctv)) (t' := tk) fun b u x => Heap.get?_push_of_some _ (k1 _ _ x)
    refine h _ c' _ _ _ ctv I3 (fun b o n x => x) ⟨ps, e, tr, .inr ⟨c', hc', ec'⟩⟩ (Heap.get?_push_size _ rfl) ?_
    obtain ⟨y1, _, y3⟩ : ObjOk X.prog X.w H s.heap c' (CdAt c' (X.env.qual ++ "<lambda>")) := I.hok c' _ ec'
    exact y3 _ _ y1 fun o x => Heap.get?_push_of_some _ (k1 _ _ x)
def dSortK (K : PySem.W.Frag) (P : Addr) (lp : Pos) (q : Str) : List V → Hp → VK → Prop := fun us H1 Q => ∃ (l : Addr) (xs : List V) (key : Nat → Int), us = [.ref l] ∧ SqL K H1 l xs ∧ xs.length < 64 ∧
  (∀ i v, xs[i]? = some v → ∃ a ys, v = .ref a ∧ H1 a = some (.tup (.int (key i) :: ys))) ∧ TabOk H1 P lp q ∧
  ∀ D H2 p, (∀ b o, b ≠ P → H1 b = some o → H2 b = some o) → H1 D = none → H2 D = some (.lst (p.map fun i => xs.getD i .non)) → TabOk H2 P lp q → Stb key xs.length p → Q (.ref D) H2
theorem pick_vals {xs : List V} {its : List Value} (rv : Vals xs its) : ∀ {L : List Nat}, (∀ i ∈ L, i < xs.length) → Vals (L.map fun i => xs.getD i .non) (L.map fun i => its.getD i Value.none)
  | [], _ => .nil
  | i :: L, h => by
    have hi := h i List.mem_cons_self
    obtain ⟨v, hv, r⟩ := rv.get (List.getElem?_eq_getElem hi)
    rw [List.map_cons, List.map_cons]
    refine .cons ?_ (pick_vals rv fun j hj => h j (List.mem_cons_of_mem _ hj))
    rw [List.getD_eq_getElem?_getD, List.getD_eq_getElem?_getD, hv, List.getElem?_eq_getElem hi]
    exact r
theorem e_sortK {v : Str} {e : Expr} {ta : TA} {p p1 p2 p3 p4 kp pos : Pos} {k : Nat} (tf : TabF X.K X.mg X.base X.env.code P) (hr : Room (k + 2) X.A) (hg : Gl X "sorted") (hm : X.mg "sorted" = none) (ha : PA X [e] ta) (hd : (v == ("__debug__" : Str)) = false := by decide)
    (hst : starEach [e] X.env = [(false, eval e X.env)] := by rfl) (hb : ∀ (nm ql : Str) (pm cd ct : Value) (a : Addr), bindArgs (PySem.W.kla_fn nm ql (lamP v p4) (lamB v p1 p2 p3) (lamS v) [] pm cd ct) ⟨[.ref a], []⟩ = pure [(v, .ref a)] := by intros; rfl) :
    PE X (.Call (.Name "sorted" p) [e] [⟨some "key", .Lambda (lamP v p4) (lamB v p1 p2 p3) (lamS v) lp, kp⟩] pos) (tCB (dSortK X.K P lp (X.env.qual ++ "<lambda>")) ta) := by
  intro pins s σ H Q I h
  refine wpAny_Call_Name_kw (ld_blt I hg hm boot_sorted ?_)
  refine callWith_kw (thn (ha pos pins s σ H _ I h) fun us s1 ⟨vs, H1, I1, r1, q1⟩ => ?_) (by rw [hst]; rfl) (by rw [hst]; rfl)
  obtain ⟨l, xs, key, ex, hq, hl, ht, hT, q⟩ := q1
  subst ex
  obtain ⟨u, rfl, ru⟩ := r1.one
  cases (show u = Value.ref l from ru)
  refine kws_cons ?_
  refine lam_make (v := v) (p1 := p1) (p2 := p2) (p3 := p3) (p4 := p4) tf I1 hT fun f c H2 s2 pm ctv I2 k2 hT2 hf hcd => ?_
  refine kws_nil ?_
  show wpAny (model X.prog X.w) X.A (call (.builtin "sorted") [.ref l] [(Str.ofString "key", .ref f)]) _ _ _
  obtain ⟨ps, eP, _⟩ := hT
  have hq2 : SqL X.K H2 l xs := by
    rcases hq with (h | ⟨o, h⟩) | h
    · exact .inl (.inl (k2 _ _ (fun z => by rw [z, eP] at h; cases h) h))
    · exact .inl (.inr ⟨o, k2 _ _ (fun z => by rw [z, eP] at h; cases h) h⟩)
    · exact .inr h
  obtain ⟨its, rv, ⟨oL, nL, eL, cL, dL, xL⟩, hz⟩ := I2.list hq2
  have hlen : its.length = xs.length := rv.length.symm
  refine sortedK (key := key) (vs := its) ⟨oL, eL, cL, nL, xL⟩ (by omega) (fun i v' h1 t1 hv k1 Q' hQ => ?_) fun D h' t n pp hD st k' hd' => ?_
  · have hi : i < xs.length := by
      rw [← hlen]
      exact (List.getElem?_eq_some_iff.mp hv).1
    obtain ⟨a, ys, e1, e2⟩ := ht i _ (List.getElem?_eq_getElem hi)
    have g := rv.get (List.getElem?_eq_getElem hi)
    rw [e1] at g
    obtain ⟨u', hu, ru'⟩ := g
    rw [hv] at hu
    cases hu
    cases (show v' = Value.ref a from ru')
    have e3 := k2 _ _ (fun z => by rw [z, eP] at e2; cases e2) e2
    obtain ⟨_, tl, rt, ob, ho, r2⟩ : ObjOk X.prog X.w H2 s2.heap a (.tup (.int (key i) :: ys)) := I2.hok a _ e3
    cases rt with
    | cons r3 r4 =>
      obtain ⟨tk, rfl⟩ := r3
      refine lam_call (s := { s2 with heap := h1, toks := t1 }) (hr.in1.in1.depth) (k1 _ _ hf) (cd_stay hcd fun o x => k1 _ _ x) (I2.nolimit.keeps k1) hd (hb _ _ _ _ _ _) (l := Value.int (key i) tk :: _) ⟨ob, k1 _ _ ho, r2⟩ rfl fun h2 t2 k3 => hQ h2 t2 tk k3
  · have hn2 : H2 D = none := I2.hok.fresh hD
    have hn1 : H1 D = none := by
      cases c : H1 D with
      | none => rfl
      | some o =>
        by_cases z : D = P
        · obtain ⟨ps2, e2, _⟩ := hT2
          rw [z, e2] at hn2
          cases hn2
        · rw [k2 _ _ z c] at hn2
          cases hn2
    have I3 := I2.laid (t' := t) (h' := h') (a := D) (o := .lst (pp.map fun i => xs.getD i .non)) k' hD ⟨by rw [List.length_map, st.1, hlen]; exact hz, outL its pp, n, pick_vals rv fun i hi => by rw [← hlen]; exact st.2.1 i hi, hd'⟩
    refine ⟨.ref D, _, I3, rfl, q D _ pp (fun b o nb x => ?_) hn1 upd_same (hT2.up fun b o x => ?_) (by rw [← hlen]; exact st)⟩
    · have x2 := k2 b o nb x
      rw [upd_ne (ne_of_none x2 hn2)]
      exact x2
    · rw [upd_ne (ne_of_none x hn2)]
      exact x
end
def tabP (K : PySem.W.Frag) (x : Str) : Addr := match PySem.W.tabIn K x with
  | some (_, P) => P
  | none => 0
structure TabK (K : PySem.W.Frag) (mg : Str → Option Value) (base : Heap) (x : Str) : Prop where
  tb : ∃ (f : Addr) (oc : Value) (od : Option Addr) (fd : FuncData) (sl : Array (Option Value)) (c : Addr), mg x = some (.ref f) ∧ K.lookup f = some ⟨oc, od, .func fd, sl⟩ ∧ fd.code = .ref c ∧ codeHdIn K c (tabP K x) = true
  bm : BmB mg base
theorem tab_in {K : PySem.W.Frag} {x : Str} {f c P : Addr} {oc cl : Value} {od cd : Option Addr} {fd : FuncData} {sl cs : Array (Option Value)} {vs : Array Value} (h1 : PySem.W.nsIn K mainGlobals x = some (some (.ref f))) (h2 : K.lookup f = some ⟨oc, od, .func fd, sl⟩) (h3 : fd.code = .ref c) (h4 : K.lookup c = some ⟨cl, cd, .fields vs, cs⟩) (h5 : (vs[11]? : Option Value) = some (.ref P)) : PySem.W.tabIn K x = some (c, P) := by
  unfold PySem.W.tabIn
  rw [h1]
  dsimp only
  rw [h2]
  dsimp only
  rw [h3]
  dsimp only
  rw [h4]
  dsimp only
  rw [h5]
theorem tabP_eq {K : PySem.W.Frag} {x : Str} {c P : Addr} (h : PySem.W.tabIn K x = some (c, P)) : tabP K x = P := by
  unfold tabP
  rw [h]
section
variable {P : Program} {w : World} {K : PySem.W.Frag} {mg : Str → Option Value} {base : Heap}
theorem Dfn.calT {x : Str} {st : Stmt} {N ps : List Str} {k : Nat} {sp : Sp} (d : Dfn K mg x st ps) (tk : TabK K mg base x) (S : FnScope N ps (defScope st)) (len : ∀ vs H Q E, sp vs H Q E → vs.length = ps.length)
    (hbody : ∀ (f : Addr) (cdv : Value) (A : Around) (outer : List Env) (s : Shared) (H : Hp) (vs : List V) (Q : VK) (E : XK), TabF K mg base cdv (tabP K x) → Room k (A.deeper (envOfC x (defScope st) s.heap.objs.size f cdv)) → sp vs H Q E →
      ∃ t, PSs (cxOf (CXE P w) P w K mg base N x (defScope st) f cdv A outer s H E).nox (defBody st) t ∧ t { nx := fun _ H' => Q .non H', rt := Q } (start N vs) H) : Cal P w K mg base x ps (k + 1) sp := by
  obtain ⟨f, fd, F, hm, hb⟩ := d.ex
  obtain ⟨oc, od, kV, doc, pm, an, cdv, ct, osl, rfl, lk, hcd⟩ := F.ex
  obtain ⟨f', oc', od', fd', sl', c, m1, m2, m3, m4⟩ := tk.tb
  rw [hm] at m1
  cases m1
  rw [lk] at m2
  cases m2
  have tf : TabF K mg base cdv (tabP K x) := ⟨⟨c, m3, m4⟩, tk.bm⟩
  exact ⟨f, _, hm, F.kp, hb, fn_of lk hcd S len fun A outer s H vs Q E hr hsp => by
    obtain ⟨t, h, q⟩ := hbody f cdv A outer s H vs Q E tf hr hsp
    exact ⟨t, h.nox, q⟩, oc, od, osl, lk⟩
end
def OnlyT (T : Addr) (H : Hp) : Prop := H T = some (.tbl #[]) ∧ ∀ b, b ≠ T → H b = none ∨ ∃ o xs, H b = some (.frz o (.lst xs))
theorem law_callT {P : Program} {w : World} {K : PySem.W.Frag} {mg mb : Str → Option Value} {CX : CXT} {k : Nat} {fa a cc T : Addr} {fd : FuncData} {x : Str} {sp : Sp} {t : Shared} {vs : List Value} {ns : List Int}
    (KX : K.In t.heap) (glob : t.heap.Ns mainGlobals mg) (blt : t.heap.Ns builtinsNs mb) (boot : ∀ x : Str, x ≠ "__name__" → mb x = bootBuiltins x) (lim : t.heap.NoLimit) (gens : t.gens = #[])
    (ca : t.heap.get? a = some { cls := .type "list", data := .seq vs.toArray }) (ia : IntsAre vs ns) (short : ns.length ≤ sizeLine) (room : Room k callerA)
    (C : CodeHd t.heap cc T) (eT : t.heap.get? T = some (tabObj #[])) (kT : K.lookup T = none)
    (bmT : BmB mg t.heap) (F : ∀ base : Heap, K.In base → base.Ns mainGlobals mg → BmB mg base → FnOk P w K mg base CX k fa fd [x] sp) (bind : ∀ (s : Shared) (u : Value), BindsTo s fd ⟨[u], []⟩ [(x, u)])
    (want : ∀ H : Hp, OnlyT T H → SqL K H a (ns.map V.int) → sp [.ref a] H (fun v _ => v = .bl true) fun _ _ _ => False)
    (fly : ∀ H e s', CX [] H t (fun _ _ _ => False) e s' → False) :
    codeAny (model P w) callerA (.call (.ref fa) ⟨[.ref a], []⟩) (fun r z => r = .ok (.ret (.bool true)) ∧ OldK t.heap z.heap ∧ z.os = t.os ∧ AllBare z.gens) t := by
  have aT : a ≠ T := fun z => by
    rw [z, eT] at ca
    cases ca
  have core : ∀ H : Hp, OnlyT T H → SqL K H a (ns.map V.int) → HOk P w H t.heap → (∀ b, H b ≠ none → b = a ∨ b = T) → (H a ≠ none → K.lookup a = none) →
      codeAny (model P w) callerA (.call (.ref fa) ⟨[.ref a], []⟩) (fun r z => r = .ok (.ret (.bool true)) ∧ OldK t.heap z.heap ∧ z.os = t.os ∧ AllBare z.gens) t := by
    intro H only sq hok two notK
    have nodict : ∀ {b : Addr} {o : Obj} {es : Array DictEntry} {ep : Nat}, t.heap.get? b = some o → o.data = .dict es ep → H b = none := fun {b o es ep} e d => by
      cases c : H b with
      | none => rfl
      | some u =>
        rcases two b (by rw [c]; simp) with z | z
        · subst z
          rw [ca] at e
          cases e
          cases d
        · subst z
          rw [eT] at e
          cases e
          cases d
    have nsB : ∀ {b : Addr} {m : Str → Option Value}, t.heap.Ns b m → (hidT t.heap H).Ns b m := fun ⟨o, es, ep, e, d, r⟩ => ⟨o, es, ep, hidT_get e (nodict e d), d, r⟩
    have kB : K.In (hidT t.heap H) := fun b o e => hidT_get (KX b o e) (by
      cases c : H b with
      | none => rfl
      | some u =>
        rcases two b (by rw [c]; simp) with z | z
        · subst z
          rw [notK (by rw [c]; simp)] at e
          cases e
        · subst z
          rw [kT] at e
          cases e)
    have md : Mod K mg (hidT t.heap H) := ⟨kB, nsB glob, ⟨mb, nsB blt, boot⟩, let ⟨mc, y1, y2⟩ := lim; ⟨mc, nsB y1, y2⟩⟩
    have e0 : Env0 P w K mg (hidT t.heap H) callerA [] t H := ⟨rfl, md, fun b o e => of_hidT e, Nat.le_of_eq (hidT_size _ _), trivial, fun b hb => absurd (show b ∈ ([] : List Addr) from hb) (by simp), hok, .of_eq gens⟩
    have bmB : BmB mg (hidT t.heap H) := by
      obtain ⟨bm, ob, h1, h2, h3, h4, h5, h6⟩ := bmT
      refine ⟨bm, ob, h1, h2, hidT_get h3 ?_, h4, h5, h6⟩
      cases c : H bm with
      | none => rfl
      | some u =>
        rcases two bm (by rw [c]; simp) with z | z
        · subst z
          rw [ca] at h3
          cases h3
          cases h6
        · subst z
          rw [eT] at h3
          cases h3
          cases h6
    refine codeAny_mono ((F _ kB (nsB glob) bmB).run callerA [] t H ⟨[.ref a], []⟩ [.ref a] [.ref a] _ _ room e0 (bind t (.ref a)) (.cons rfl .nil) (want H only sq)) fun r z y => ?_
    cases r with
    | error e => exact (fly H e z y).elim
    | ok fl =>
      cases fl with
      | next => exact y.elim
      | brk => exact y.elim
      | cont => exact y.elim
      | ret u =>
        obtain ⟨v, H', os, bare, un, hok', rv, yes⟩ := y
        obtain rfl : v = .bl true := yes
        obtain rfl : u = Value.bool true := rv
        obtain ⟨more, em⟩ := un.tbls T #[] only.1
        have zT : z.heap.get? T = some (tabObj (#[] ++ more)) := hok' T _ em
        have kp : ∀ b o, b ≠ T → t.heap.get? b = some o → z.heap.get? b = some o := fun b o n e => by
          rcases only.2 b n with c | ⟨ob, xs, c⟩
          · exact un.keep b o e c (fun q => absurd (show b ∈ ([] : List Addr) from q) (by simp)) (by simp)
          · obtain ⟨g1, _⟩ := hok b _ c
            obtain ⟨g2, _⟩ := hok' b _ (un.frzs b ob _ c)
            rw [e] at g1
            cases g1
            exact g2
        refine ⟨rfl, ⟨fun b o e => ?_, fun b o e => ?_⟩, os, bare⟩
        · by_cases n : b = T
          · subst n
            rw [eT] at e
            cases e
            exact .inr (.inl ⟨(C.tab eT).isCodeTable, rfl, #[], more, rfl, zT⟩)
          · exact .inl (kp b o n e)
        · by_cases n : b = T
          · exact ⟨_, n ▸ zT⟩
          · exact ⟨o, kp b o n e⟩
  have rv := vals_ints ia
  have ln := ia.length
  cases hk : K.lookup a with
  | some o =>
    have e := KX a o hk
    rw [ca] at e
    cases e
    refine core (upd (fun _ => none) T (.tbl #[])) ⟨upd_same, fun b n => .inl (upd_ne n)⟩ (.inr ⟨_, vs.toArray, _, hk, rfl, rfl, rfl, by rw [List.size_toArray, ln]; exact short, by simpa using rv⟩) (fun b u z => ?_) (fun b z => ?_) fun z => absurd (upd_ne aT) z
    · by_cases n : b = T
      · subst n
        rw [upd_same] at z
        cases z
        exact eT
      · rw [upd_ne n] at z
        cases z
    · by_cases n : b = T
      · exact .inr n
      · exact absurd (upd_ne n) z
  | none =>
    refine core (upd (upd (fun _ => none) a (.frz { cls := .type "list", data := .seq vs.toArray } (.lst (ns.map V.int)))) T (.tbl #[])) ⟨upd_same, fun b n => ?_⟩ (.inl (.inr ⟨{ cls := .type "list", data := .seq vs.toArray }, ?_⟩)) (fun b u z => ?_) (fun b z => ?_) fun _ => hk
    · rw [upd_ne n]
      by_cases n2 : b = a
      · rw [n2, upd_same]
        exact .inr ⟨_, _, rfl⟩
      · exact .inl (upd_ne n2)
    · rw [upd_ne aT, upd_same]
    · by_cases n : b = T
      · subst n
        rw [upd_same] at z
        cases z
        exact eT
      · rw [upd_ne n] at z
        by_cases n2 : b = a
        · subst n2
          rw [upd_same] at z
          cases z
          exact ⟨ca, by rw [List.length_map]; exact short, vs, _, rv, ca⟩
        · rw [upd_ne n2] at z
          cases z
    · by_cases n : b = T
      · exact .inr n
      · by_cases n2 : b = a
        · exact .inl n2
        · exact absurd ((upd_ne n).trans (upd_ne n2)) z
end Lw
end
section
set_option Elab.async false
set_option linter.all false
set_option maxRecDepth 100000
set_option maxHeartbeats 4000000
namespace Lw
open PySem PySem.Spec PyProof.Rows L2
section
variable {X : Cx}
end
end Lw
end
section
set_option Elab.async false
set_option linter.all false
set_option maxRecDepth 100000
set_option maxHeartbeats 4000000
namespace Lw
open PySem PySem.Spec PyProof.Rows L2
section
variable {X : Cx}
theorem inv_frz {pins : List (Addr × Obj)} {σ : L2.St} {H : Hp} {s : Shared} {a : Addr} {kvs : List (Key × V)} {o : Obj} (I : Inv X pins σ H s) (ha : H a = some (.dK kvs)) (ho : s.heap.get? a = some o) : Inv X pins σ (upd H a (.frz o (.dK kvs))) s := by
  have old : ∀ b u, H b = some u → b ≠ a → upd H a (.frz o (.dK kvs)) b = some u := fun b u e n => by rw [upd_ne n]; exact e
  refine I.step (g' := s.gens) (d' := s.drawn) (t' := s.toks) (h' := s.heap) (ch := []) (fun _ z => nomatch z) (fun b o _ _ _ e _ => e) (fun b o _ _ _ e _ => ⟨o.slots, e⟩) (fun b u _ e n => ?_) (fun b o _ e => ⟨o, e⟩) (fun b xs e => old b _ e ?_) (fun b ob u e => old b _ e ?_)
    (fun b ps e => ⟨#[], by rw [old b _ e (fun z => by rw [z, ha] at e; cases e)]; simp⟩) (fun m hm => hm) (fun b u e => ?_) I.bare
  · rw [upd_ne (fun z => by rw [z, ha] at n; cases n)]
    exact n
  · intro z
    rw [z, ha] at e
    cases e
  · intro z
    rw [z, ha] at e
    cases e
  · have ho' : ∀ b c, H b = some (.own c) → upd H a (.frz o (.dK kvs)) b = some (.own c) := fun b c e => old b _ e fun z => by rw [z, ha] at e; cases e
    have ht' : ∀ b xs, H b = some (.tup xs) → upd H a (.frz o (.dK kvs)) b = some (.tup xs) := fun b xs e => old b _ e fun z => by rw [z, ha] at e; cases e
    by_cases hb : b = a
    · subst hb
      rw [upd_same] at e
      cases e
      exact ⟨ho, (I.hok b _ ha).stay (fun c v _ q => q) (fun c q => ho' c _ q) ht'⟩
    · rw [upd_ne hb] at e
      exact (I.hok b u e).stay (fun c v _ q => q) (fun c q => ho' c _ q) ht'
end
end Lw
end
section
set_option Elab.async false
set_option linter.all false
set_option maxRecDepth 100000
set_option maxHeartbeats 4000000
namespace Lw
open PySem PySem.Spec PyProof.Rows L2
theorem kv_vals {kvs : List (Key × V)} {vs : List (Key × Value)} (r : KV kvs vs) : Vals (kvs.map (·.2)) (vs.map (·.2)) := by
  unfold KV at r
  induction r with
  | nil => exact .nil
  | cons h _ ih => exact .cons h.2 ih
def tLvals (td : TE) : TE := fun σ H Q => td σ H fun x H1 => ∃ (d : Addr) (kvs : List (Key × V)), x = .ref d ∧ Rd H1 d (.dK kvs) ∧ ∀ D H', Same H1 H' → H1 D = none → H' D = some (.lst (kvs.map (·.2))) → Q (.ref D) H'
section
variable {X : Cx}
theorem pe_lvals {o : Expr} {td : TE} {p apos cpos pos : Pos} (hg : Gl X "list") (hm : X.mg "list" = none) (ho : PE X o td) (hcalm : X.calm = true)
    (hbase : attributeBase o "values" X.env (eval o X.env) = eval o X.env := by rfl) (hline : (apos.endLine == cpos.line) = true := by rfl) :
    PE X (.Call (.Name "list" p) [.Call (.Attribute o "values" apos) [] [] cpos] [] pos) (tLvals td) := by
  intro pins s σ H Q I h
  refine Call_ (ld_blt I hg hm PyProof.Rows.boot_list (PyProof.Rows.callWith_type1 ?_))
  refine Calls.spliced_cons ?_
  refine wpAny_Call_method0_late hbase hline (thn (ho pins s σ H _ I h) fun u s1 ⟨x, H1, I1, rx, d, kvs, ex, hd, q⟩ => ?_)
  subst ex
  obtain rfl : u = Value.ref d := rx
  obtain ⟨t1, t2, lo⟩ := isD_at I1 (.inl ⟨kvs, hd⟩)
  obtain ⟨z, _, vs, rel, dd⟩ := dk_rd I1.hok hd
  refine ⟨"dict", "dict.values", PySem.F.plainAttrs_dict, PySem.F.slot_dict_values, PySem.F.type_dict_values, t1, t2, Calls.callWith_builtin rfl (PySem.evalArgs_none ?_)⟩
  refine call_meetsIn PySem.F.slot_dict_values t1 PySem.F.entry_dict_values (PySem.F.args_dict_values_1 _) (meets_dict_values (mixKind X.prog X.w) d lo) ⟨⟨vs, dd⟩, Calls.spliced_nil ?_⟩
  obtain ⟨o', es, ep, r1⟩ := dd
  have at' : s1.heap.DictAt (mixKind X.prog X.w) d vs ep := ⟨o', es, r1⟩
  have kl := rel.length
  have sz : (s1.heap.push { cls := .type "dict_values", data := .fields #[.ref d] }).objs.size = s1.heap.objs.size + 1 := size_push' _ _
  refine PySem.W.kdl_call (s := { s1 with heap := s1.heap.push { cls := .type "dict_values", data := .fields #[.ref d] } }) (PySem.W.kdl_values (knd := mixKind X.prog X.w) (kvs := vs) (ep := ep) (r := s1.heap.objs.size) (d := d)) (I1.ok.hd hcalm) ⟨⟨_, Heap.get?_push_size _ rfl, rfl, rfl⟩, at'.push _⟩ (by omega) fun h' tk acc c keep hS it => ?_
  have ea : acc.toList = vs.map (·.2) := PySem.W.kdl_vals_eq acc.toList (by rw [Array.length_toList]; exact it.1) fun j v hv => it.2 j v (by rw [← Array.getElem?_toList]; exact hv)
  have hD : H1 (s1.heap.objs.size + 1) = none := I1.hok.fresh (Nat.le_succ _)
  rw [sz] at hS ⊢
  refine ⟨.ref (s1.heap.objs.size + 1), _, I1.laid (a := s1.heap.objs.size + 1) (o := .lst (kvs.map (·.2))) (t' := tk) (fun b ob eb => keep b ob (Heap.get?_push_of_some _ eb)) (Nat.le_succ _) (show ObjOk X.prog X.w _ h' _ (.lst (kvs.map (·.2))) from ⟨by rw [List.length_map]; exact z, vs.map (·.2), c, kv_vals rel, ?_⟩), rfl, q _ _ (same_upd hD) hD upd_same⟩
  rw [hS, ← ea]
theorem inv_thaw {pins : List (Addr × Obj)} {σ : L2.St} {H : Hp} {s : Shared} {a : Addr} {kvs : List (Key × V)} {o : Obj} (I : Inv X pins σ H s) (ha : H a = some (.frz o (.dK kvs))) (h0 : ∀ o u, X.H₀ a ≠ some (.frz o u)) : Inv X pins σ (upd H a (.dK kvs)) s := by
  have ne : ∀ {b : Addr}, H b = none → b ≠ a := fun e z => by rw [z, ha] at e; cases e
  have old : ∀ b u, H b = some u → b ≠ a → upd H a (.dK kvs) b = some u := fun b u e n => by rw [upd_ne n]; exact e
  have nn : ∀ {b : Addr}, H b = none → upd H a (.dK kvs) b = none := fun e => by rw [upd_ne (ne e)]; exact e
  refine { ok := I.ok, os := I.os, bare := I.bare, base := ?_, loc := I.loc, cell := I.cell, free := nn I.free, freeC := fun x c e => nn (I.freeC x c e), pin := fun p hp => ?_, hok := fun b u e => ?_, len := I.len }
  · refine { keep := I.base.keep, slot := I.base.slot, free := fun b o e n x => nn (I.base.free b o e n x), there := I.base.there, tups := fun b xs e => old b _ (I.base.tups b xs e) fun z => ?_, frzs := fun b o u e => old b _ (I.base.frzs b o u e) fun z => ?_, tbls := fun b ps e => ?_ }
    · have := I.base.tups b xs e
      rw [z, ha] at this
      cases this
    · exact h0 o u (z ▸ e)
    · obtain ⟨more, e'⟩ := I.base.tbls b ps e
      exact ⟨more, old b _ e' fun z => by rw [z, ha] at e'; cases e'⟩
  · obtain ⟨p1, p2, p3⟩ := I.pin p hp
    exact ⟨p1, nn p2, p3⟩
  · have ho' : ∀ b c, H b = some (.own c) → upd H a (.dK kvs) b = some (.own c) := fun b c e => old b _ e fun z => by rw [z, ha] at e; cases e
    have ht' : ∀ b xs, H b = some (.tup xs) → upd H a (.dK kvs) b = some (.tup xs) := fun b xs e => old b _ e fun z => by rw [z, ha] at e; cases e
    by_cases hb : b = a
    · subst hb
      rw [upd_same] at e
      cases e
      have := (show ObjOk X.prog X.w H s.heap b (.frz o (.dK kvs)) from I.hok b _ ha)
      exact (show ObjOk X.prog X.w H s.heap b (.dK kvs) from this.2).stay (fun c v _ q => q) (fun c q => ho' c _ q) ht'
    · rw [upd_ne hb] at e
      exact (I.hok b u e).stay (fun c v _ q => q) (fun c q => ho' c _ q) ht'
def tThaw (H0 : Hp) (te : TE) : TE := fun σ H Q => te σ H fun v H' => ∃ a o kvs, H' a = some (.frz o (.dK kvs)) ∧ (∀ o u, H0 a ≠ some (.frz o u)) ∧ Q v (upd H' a (.dK kvs))
theorem pe_thaw {e : Expr} {te : TE} (he : PE X e te) : PE X e (tThaw X.H₀ te) := by
  intro pins s σ H Q I h
  refine thn (he pins s σ H _ I h) fun v s1 ⟨x, H1, I1, rx, a, o, kvs, ea, h0, q⟩ => ?_
  exact ⟨x, _, inv_thaw I1 ea h0, rx, q⟩
def ItdK (a : Addr) (o : Obj) (ks : List Key) : It :=
  ⟨fun i H => (∃ kvs, H a = some (.frz o (.dK kvs)) ∧ kvs.map (·.1) = ks) ∧ i < ks.length,
   fun i H v H' => H' = H ∧ ∃ x, ks[i]? = some x ∧ v = kV x,
   fun i H => (∃ kvs, H a = some (.frz o (.dK kvs)) ∧ kvs.map (·.1) = ks) ∧ ks.length ≤ i⟩
theorem turn_keysK {P : Program} {w : World} {K : PySem.W.Frag} {tg : Expr} {it a : Addr} {o : Obj} {names : List Key} {es : Array DictEntry} {ep : Nat} (ho : o.data = .dict es ep) :
    Turn P w K tg (ItdK a o names) [it] it (fun i h => h.IsKeyIter it a i names.length ep) where
  mem := by simp
  obj := fun i h Z c hc => by
    have hc : c = it := by simpa using hc
    subst hc
    obtain ⟨o, e, _, d⟩ := Z
    exact ⟨o, e, fun v z => by rw [d] at z; cases z⟩
  keep := fun i h h' Z k => by
    obtain ⟨o, e, r⟩ := Z
    exact ⟨o, k it (by simp) o e, r⟩
  item := by
    intro X hP hw hK hc i pins s σ H E I hf Z hg
    subst hP hw hK
    obtain ⟨⟨kvs, e, hk⟩, hi⟩ := hg
    obtain ⟨e0, z, lo, vs, rel, dd⟩ := (show ObjOk X.prog X.w H s.heap a (.frz o (.dK kvs)) from I.hok a _ e)
    have kk := rel.keys
    have kl := rel.length
    have nl : kvs.length = names.length := by
      have := congrArg List.length hk
      simpa using this
    obtain ⟨o', es', ep', r0, r1, r2, r3⟩ := dd
    rw [e0] at r0
    cases r0
    rw [ho] at r2
    cases r2
    have at' : s.heap.DictAt (mixKind X.prog X.w) a vs ep := ⟨o, es, e0, r1, ho, r3⟩
    have vl : vs.length = names.length := by omega
    have hx : vs[i]? = some (vs[i]'(by omega)) := List.getElem?_eq_getElem (by omega)
    generalize vs[i]'(by omega) = kv at hx
    obtain ⟨k, u⟩ := kv
    have h3 : (vs.map (·.1))[i]? = some k := by rw [List.getElem?_map, hx]; rfl
    rw [← kk, hk] at h3
    have hn : names[i]? = some names[i] := List.getElem?_eq_getElem hi
    have hkn : k = names[i] := by
      rw [hn] at h3
      exact (Option.some.inj h3).symm
    have Z : s.heap.IsKeyIter it a i vs.length ep := by rw [vl]; exact Z
    refine wpAny_pyNext_dict_item Z at' hx fun key g hkey hit sb => ⟨_, rfl, ?_⟩
    refine letGo_keyiter (s' := { s with heap := g }) hit ?_
    have I1 : Inv X pins σ H { s with heap := g } := inv_moved I (t' := s.toks) (fp := [it]) (fun c o hc e => sb.extBut c o (fun x => hc (by simp [x])) e) hf
    rcases keyIs_shape (show keyIs k key = true from hkey) with ⟨i', t, e1, e2⟩ | ⟨y', t, e1, e2⟩
    · refine ⟨.int i', H, I1, ⟨t, e2⟩, ⟨rfl, _, h3, by rw [e1]; rfl⟩, ?_, fun b hb => (hf b hb).1⟩
      rw [← vl]
      exact hit
    · refine ⟨.str y', H, I1, ⟨t, e2⟩, ⟨rfl, _, h3, by rw [e1]; rfl⟩, ?_, fun b hb => (hf b hb).1⟩
      rw [← vl]
      exact hit
  done := by
    intro X hP hw hK hc i pins s σ H E I hf Z hg
    subst hP hw hK
    obtain ⟨⟨kvs, e, hk⟩, hi⟩ := hg
    obtain ⟨e0, z, lo, vs, rel, dd⟩ := (show ObjOk X.prog X.w H s.heap a (.frz o (.dK kvs)) from I.hok a _ e)
    have kl := rel.length
    have nl : kvs.length = names.length := by
      have := congrArg List.length hk
      simpa using this
    obtain ⟨o', es', ep', r0, r1, r2, r3⟩ := dd
    rw [e0] at r0
    cases r0
    rw [ho] at r2
    cases r2
    have at' : s.heap.DictAt (mixKind X.prog X.w) a vs ep := ⟨o, es, e0, r1, ho, r3⟩
    have vl : vs.length = names.length := by omega
    have Z : s.heap.IsKeyIter it a i vs.length ep := by rw [vl]; exact Z
    refine wpAny_pyNext_dict_end (I.ok.hd hc) Z at' (List.getElem?_eq_none (by omega)) fun g kp => ⟨rfl, ?_⟩
    exact inv_moved I (t' := s.toks) (fp := [it]) (fun c o hc e => kp c o (fun x => hc (by simp [x])) e) hf
  self := fun _ _ _ _ _ Z h => wpAny_pyIter_keyiter Z h
def iKeysK (te : TE) : TI := fun σ H R => te σ H fun x H1 => ∃ a kvs, x = .ref a ∧ H1 a = some (.dK kvs) ∧ ∀ o, R (ItdK a o (kvs.map (·.1))) (upd H1 a (.frz o (.dK kvs)))
theorem pi_keysK {tg l : Expr} {te : TE} (hl : PE X l te) : PI X tg l (iKeysK te) := by
  intro pins s σ H R I h
  refine thn (hl pins s σ H _ I h) fun v s1 ⟨x, H1, I1, r1, q1⟩ => ?_
  obtain ⟨a, kvs, e, ea, q⟩ := q1
  subst e
  cases r1
  obtain ⟨z, lo, vs, rel, dd⟩ := dk_of I1.hok ea
  have kl := rel.length
  obtain ⟨o, es, ep, r0, r1, r2, r3⟩ := dd
  have I2 := inv_frz I1 ea r0
  have at' : s1.heap.DictAt (mixKind X.prog X.w) a vs ep := ⟨o, es, r0, r1, r2, r3⟩
  refine wpAny_pyIter_dict lo at' ?_
  refine ⟨s1.heap.objs.size, [s1.heap.objs.size], _, _, _, rfl, I2.kept (t' := s1.toks) fun b o e => Heap.get?_push_of_some _ e, turn_keysK (a := a) (names := kvs.map (·.1)) (ep := ep) r2, ⟨_, Heap.get?_push_size _ rfl, rfl, ?_⟩, fun b hb => ?_, q o⟩
  · show Data.fields _ = Data.fields _
    rw [show vs.length = (kvs.map (·.1)).length by rw [List.length_map]; omega]
    rfl
  · have e : b = s1.heap.objs.size := by simpa using hb
    subst e
    exact I2.fpOk (Nat.le_refl _) (I2.hok.fresh (Nat.le_refl _))
theorem comp_keysKI {a : Addr} {o : Obj} {kvs : List (Key × V)} {g : TG} {tc : TT} {te : TE} {k : Nat} {js : List Nat} {σ : L2.St} {H1 : Hp} {Q : VK} (R : Hp → Key → V → Prop) (up : ∀ m y H H', Kt H H' → R H m y → R H' m y) (c : Key → Bool)
    (hz : kvs.length ≤ 1000) (hx : H1 a = some (.frz o (.dK kvs)))
    (hs : ∀ x H2, x ∈ kvs.map (·.1) → Same H1 H2 → ∀ (P : VK) (P' : Hp → Prop), (c x = true → ∀ y H3, Same H2 H3 → R H3 x y → P y H3) → (c x = false → ∀ H3, Same H2 H3 → P' H3) → g (kV x) (List.replicate k none ++ capσ js σ) H2 fun σ2 H3 => σ2.drop k = capσ js σ ∧ tc σ2 H3 fun b H4 => Br b (te σ2 H4 P) (P' H4))
    (hq : ∀ D H' ys, Same H1 H' → H1 D = none → H' D = some (.lst ys) → All2 (R H') ((kvs.map (·.1)).filter c) ys → Q (.ref D) H') : CGoalI (ItdK a o (kvs.map (·.1))) g tc te k js σ H1 Q := by
  unfold CGoalI
  intro D hD
  refine ⟨fun i m H => m = (kvs.map (·.1)).length - i ∧ i ≤ (kvs.map (·.1)).length ∧ Same H1 H ∧ ∃ ys, H D = some (.lst ys) ∧ All2 (R H) (((kvs.map (·.1)).take i).filter c) ys, ⟨(kvs.map (·.1)).length, by simp, Nat.zero_le _, same_upd hD, [], upd_same, .nil⟩, ?_⟩
  rintro i m H ⟨rfl, hi, sm, ys, hH, ar⟩
  have sq := sm _ _ hx
  by_cases hlt : i < (kvs.map (·.1)).length
  · refine .inr ⟨⟨⟨kvs, sq, rfl⟩, hlt⟩, fun v H' y => ?_⟩
    obtain ⟨rfl, x, hxi, rfl⟩ := y
    have yl : ys.length < sizeLine := by
      rw [← ar.len]
      refine Nat.lt_of_le_of_lt (List.length_filter_le _ _) ?_
      rw [List.length_take]
      exact Nat.lt_of_le_of_lt (Nat.min_le_left _ _) (Nat.lt_of_lt_of_le hlt (Nat.le_trans (by rw [List.length_map]; exact hz) (by decide)))
    refine hs x _ (List.mem_of_getElem? hxi) sm _ _ (fun hc y H3 s3 r3 => ⟨ys, s3 _ _ hH, yl, (kvs.map (·.1)).length - (i + 1), by omega, rfl, hlt, same_app' (sm.trans s3) hD, ys ++ [y], upd_same, ?_⟩) fun hc H3 s3 => ⟨(kvs.map (·.1)).length - (i + 1), by omega, rfl, hlt, sm.trans s3, ys, s3 _ _ hH, ?_⟩
    · have kt : Kt H3 (upd H3 D (.lst (ys ++ [y]))) := kt_upd (s3 _ _ hH)
      rw [List.take_add_one, hxi, List.filter_append]
      have ef : (Option.toList (some x)).filter c = [x] := by simp [hc]
      rw [ef]
      exact (ar.imp fun v y r => up v y _ _ ((kt_of s3).trans kt) r).snoc (up _ _ _ _ kt r3)
    · rw [List.take_add_one, hxi, List.filter_append]
      have ef : (Option.toList (some x)).filter c = [] := by simp [hc]
      rw [ef, List.append_nil]
      exact ar.imp fun v y r => up v y _ _ (kt_of s3) r
  · have e : i = (kvs.map (·.1)).length := by omega
    subst e
    rw [List.take_length] at ar
    exact .inl ⟨⟨⟨kvs, sq, rfl⟩, Nat.le_refl _⟩, hq D _ ys sm hD hH ar⟩
theorem list_extT (l : Addr) (items : Array Value) (n : Nat) (b : Addr) (items2 : Array Value) (n2 : Nat) (dd : Option Addr) (sl : Array (Option Value)) (hs0 : ¬(!items.isEmpty && Builtin.List.listTooLong (items.size + items2.size)) = true) (hs1 : items.size ≤ sizeLine) (hs2 : items.size + items2.size ≤ sizeLine + 1) :
    Meets (Builtin.«list.extend» ⟨[.ref l, .ref b], []⟩) (fun _ R s => s.heap.get? l = some { cls := .type "list", dict := none, data := .seq items n, slots := #[] } ∧ s.heap.get? b = some { cls := .type "tuple", dict := dd, data := .seq items2 n2, slots := sl } ∧ R (.ok (.ret Value.none)) { s with heap := s.heap.update l (Obj.mapSeq fun x => x ++ items2), toks := s.toks }) :=
  .of_wp fun prog w A R s h => by
    obtain ⟨hp, g, d, tk, os⟩ := s; obtain ⟨hl, hb, h⟩ := h; have f1 := AutoSeq1.idx_int; have f2 := AutoSeq1.sub_tuple_tuple; have f3 := AutoSeq1.sub_list_list; have f4 := AutoSeq1.sub_tuple_list; have f5 := AutoSeq1.sub_list_tuple
    have hz' : (items ++ items2).size ≤ sizeLine + 1 := by rw [Array.size_append]; exact hs2
    wp_walk using (wpAny_updateSeq hl rfl (hz := hs1) (_hz' := hz')), AutoSeq1.wpAny_loadPart' hl, AutoSeq1.wpAny_loadPart' hb
    exact ⟨_, rfl, h⟩
def rExtT : V → List V → Hp → VK → Prop := fun x vs H Q => ∃ l b xs zs, x = .ref l ∧ vs = [.ref b] ∧ H l = some (.lst xs) ∧ H b = some (.tup zs) ∧ xs.length + zs.length ≤ sizeLine ∧ Q .non (upd H l (.lst (xs ++ zs)))
theorem mt_extT : MtM X "list.extend" rExtT := by
  intro pins s σ H x vs v us Q I rx rv h
  obtain ⟨l, b, xs, zs, rfl, rfl, hH, hB, hz, q⟩ := h
  cases rx
  obtain ⟨u, rfl, ru⟩ := rv.one
  cases ru
  obtain ⟨z, its, n, r, hl, e⟩ := I.lstM hH
  obtain ⟨z2, its2, r2, ⟨c2, d2, b2, l2⟩, f1, f2, n2, f3⟩ := (show ObjOk X.prog X.w H s.heap _ (.tup zs) from I.hok _ _ hB)
  simp only at f2 f3
  subst f2 f3
  have hl2 := r2.length
  have hsz : its.toArray.size + its2.toArray.size ≤ sizeLine := by rw [List.size_toArray, List.size_toArray]; omega
  have hlong : ¬ (!its.toArray.isEmpty && Builtin.List.listTooLong (its.toArray.size + its2.toArray.size)) = true := by
    rw [notLongL hsz, Bool.and_false]
    exact Bool.false_ne_true
  refine call_meets F.slot_list_extend ⟨_, e, rfl⟩ F.entry_list_extend (F.args_list_extend_2 _ _)
    (list_extT l its.toArray n b its2.toArray n2 d2 l2 hlong (by rw [List.size_toArray]; omega) (by omega)) ⟨e, f1, ?_⟩
  refine ⟨.non, _, I.lset (its' := its ++ its2) hH e (by simp) (r.append r2) ?_, rfl, q⟩
  rw [List.length_append]
  omega
theorem t_dninK {i o : Expr} {ty td : TE} {pos : Pos} (hu : X.A.units + 1 < cLine) (hi : PE X i ty) (ho : PE X o td) (hm : behindInMarks .NotIn o = false) : PT X (.Compare i [.NotIn] [o] pos) (dTest (tDNotIn ty td)) := by
  rw [dTest_eqB]
  exact pt_cmp (pc_dnotin hu hi ho) hm
end
end Lw
end
section
set_option Elab.async false
set_option linter.all false
set_option maxRecDepth 100000
set_option maxHeartbeats 4000000
namespace Lw
open PySem PySem.Spec PyProof.Rows L2
def gt2 (x1 x2 y1 y2 : Int) : Bool := decide (y1 < x1 ∨ x1 = y1 ∧ y2 < x2)
theorem rc_gt_int {prog : Program} {w : World} {A : Around} {E : Value → Shared → Prop} {s : Shared} {a b : Int} {t u : Tok} {Q : Value → Shared → Prop} (h : Q (.bool (decide (a > b))) s) : wpAny (model prog w) A (richCompare .Gt (.int a t) (.int b u)) Q E s := gt_int h
theorem tuple_gt2 (l b : Addr) (x1 x2 y1 y2 : Int) (t1 t2 u1 u2 n n2 : Nat) (dd dd2 : Option Addr) (sl sl2 : Array (Option Value)) :
    Meets (Builtin.«tuple.__gt__» ⟨[.ref l, .ref b], []⟩)
      (fun A R s => s.heap.get? l = some { cls := .type "tuple", dict := dd, data := .seq #[.int x1 t1, .int x2 t2] n, slots := sl } ∧ s.heap.get? b = some { cls := .type "tuple", dict := dd2, data := .seq #[.int y1 u1, .int y2 u2] n2, slots := sl2 } ∧
        R (.ok (.ret (.bool (gt2 x1 x2 y1 y2)))) s) :=
  .of_wp fun prog w A R s h => by
    obtain ⟨hp, g, d, tk, os⟩ := s; obtain ⟨hl, hb, h⟩ := h
    have f2 := AutoSeq1.sub_tuple_tuple
    wp_walk using AutoSeq1.wpAny_loadPart' hl, AutoSeq1.wpAny_loadPart' hb, wpAny_forIn_list _ (fun rest b s' => b.1 = none ∧ s' = ⟨hp, g, d, tk, os⟩ ∧ (rest = [(Value.int x1 t1, Value.int y1 u1), (Value.int x2 t2, Value.int y2 u2)] ∨ (rest = [(Value.int x2 t2, Value.int y2 u2)] ∧ x1 = y1) ∨ (rest = [] ∧ x1 = y1 ∧ x2 = y2))) _
    case turn =>
      rintro ⟨y, x⟩ rest b s' ⟨hb', rfl, hz⟩
      rcases hz with hz | ⟨hz, e1⟩ | ⟨hz, _⟩
      · injection hz with hyx hrest
        injection hyx with hy hx
        subst hy hx
        refine wpAny_bind (MeetsSeq.EqGives.int x1 y1 t1 u1 _ _ _ _ _ _ ?_)
        cases c : (x1 == y1) with
        | true =>
          have c : x1 = y1 := by simpa using c
          wp_walk
          exact ⟨rfl, rfl, .inr (.inl ⟨hrest, c⟩)⟩
        | false =>
          have c : ¬ x1 = y1 := by simpa using c
          have e : decide (x1 > y1) = gt2 x1 x2 y1 y2 := by
            unfold gt2
            exact decide_eq_decide.mpr ⟨.inl, fun h => h.resolve_right fun z => c z.1⟩
          wp_walk using rc_gt_int
          exact ⟨_, rfl, by rw [e]; exact h⟩
      · injection hz with hyx hrest
        injection hyx with hy hx
        subst hy hx
        refine wpAny_bind (MeetsSeq.EqGives.int x2 y2 t2 u2 _ _ _ _ _ _ ?_)
        cases c : (x2 == y2) with
        | true =>
          have c : x2 = y2 := by simpa using c
          wp_walk
          exact ⟨rfl, rfl, .inr (.inr ⟨hrest, e1, c⟩)⟩
        | false =>
          have c : ¬ x2 = y2 := by simpa using c
          have e : decide (x2 > y2) = gt2 x1 x2 y1 y2 := by
            unfold gt2
            exact decide_eq_decide.mpr ⟨fun h => .inr ⟨e1, h⟩, fun h => h.elim (fun z => absurd z (by omega)) fun z => z.2⟩
          wp_walk using rc_gt_int
          exact ⟨_, rfl, by rw [e]; exact h⟩
      · cases hz
    case fin =>
      rintro ⟨b1, b2⟩ s' ⟨hb', rfl, hz⟩
      simp only at hb'
      subst hb'
      rcases hz with hz | ⟨hz, _⟩ | ⟨_, e1, e2⟩
      · cases hz
      · cases hz
      · have e : gt2 x1 x2 y1 y2 = false := decide_eq_false (by omega)
        rw [e] at h
        wp_walk
        exact ⟨_, rfl, h⟩
    case h =>
      exact ⟨rfl, rfl, .inl rfl⟩
section
variable {X : Cx}
def dGt2 : R2 := fun x y H Q => match x, y with
  | .ref a, .ref b => ∃ x1 x2 y1 y2 : Int, H a = some (.tup [.int x1, .int x2]) ∧ H b = some (.tup [.int y1, .int y2]) ∧ Q (.bl (gt2 x1 x2 y1 y2)) H
  | _, _ => False
theorem o_gt2 (hu : X.A.units + 64 < cLine) : OpR X (compareOp .Gt) dGt2 := by
  intro pins s σ H x y v u Q I rx ry q
  cases x <;> cases y <;> first
    | exact False.elim q
    | (obtain ⟨x1, x2, y1, y2, h1, h2, q⟩ := q
       cases rx
       cases ry
       obtain ⟨_, its, r, ⟨c1, d1, b1, l1⟩, e1, e2, n, e3⟩ := (show ObjOk X.prog X.w H s.heap _ (.tup [.int x1, .int x2]) from I.hok _ _ h1)
       obtain ⟨_, its2, r2, ⟨c2, d2, b2, l2⟩, f1, f2, n2, f3⟩ := (show ObjOk X.prog X.w H s.heap _ (.tup [.int y1, .int y2]) from I.hok _ _ h2)
       obtain ⟨w1, w2, rfl, ⟨t1, rfl⟩, ⟨t2, rfl⟩⟩ := vals2 r
       obtain ⟨w3, w4, rfl, ⟨u1, rfl⟩, ⟨u2, rfl⟩⟩ := vals2 r2
       simp only at e2 e3 f2 f3
       subst e2 e3 f2 f3
       exact richCompare_meets_room (op := .Gt) ⟨_, e1, rfl⟩ ⟨_, f1, rfl⟩ F.slot_tuple_gt F.entry_tuple_gt (F.args_tuple_gt_2 _ _) (tuple_gt2 _ _ x1 x2 y1 y2 t1 t2 u1 u2 n n2 d1 d2 l1 l2)
         ⟨e1, f1, show Value.bool (gt2 x1 x2 y1 y2) ≠ Value.notImplemented ∧ _ from ⟨(fun x => nomatch x), .bl _, H, I, rfl, q⟩⟩ (by omega))
end
end Lw
end
section
set_option Elab.async false
set_option linter.all false
set_option maxRecDepth 100000
set_option maxHeartbeats 4000000
namespace Lw
open PySem PySem.Spec PyProof.Rows L2
section
variable {M : Model} {A : Around} {E : Value → Shared → Prop} {s : Shared}
end
section
variable {X : Cx}
end
end Lw
end
section
set_option Elab.async false
set_option linter.all false
set_option maxRecDepth 100000
set_option maxHeartbeats 4000000
namespace Lw
open PySem PySem.Spec PyProof.Rows L2
def insV (xs : List V) (k : Nat) (y : V) : List V := xs.take k ++ y :: xs.drop k
def rInsert : V → List V → Hp → VK → Prop := fun x vs H Q => ∃ l xs i y, x = .ref l ∧ vs = [.int i, y] ∧ H l = some (.lst xs) ∧ 0 ≤ i ∧ i ≤ xs.length ∧ xs.length < 1000 ∧ Q .non (upd H l (.lst (insV xs i.toNat y)))
section
variable {X : Cx}
theorem Vals.take' : ∀ {xs : List V} {us : List Value} (k : Nat), Vals xs us → Vals (xs.take k) (us.take k)
  | _, _, 0, _ => .nil
  | _, _, k + 1, .nil => .nil
  | _, _, k + 1, .cons r t => .cons r (Vals.take' k t)
theorem Vals.drop' : ∀ {xs : List V} {us : List Value} (k : Nat), Vals xs us → Vals (xs.drop k) (us.drop k)
  | _, _, 0, r => r
  | _, _, k + 1, .nil => .nil
  | _, _, k + 1, .cons r t => Vals.drop' k t
theorem mt_insert : MtM X "list.insert" rInsert := by
  intro pins s σ H x vs v us Q I rx rv h
  obtain ⟨l, xs, i, y, rfl, rfl, hH, i0, i1, hz, q⟩ := h
  cases rx
  obtain ⟨u1, u2, rfl, r1, r2⟩ := vals2 rv
  obtain ⟨t, rfl⟩ := (show ∃ t, u1 = Value.int i t from r1)
  obtain ⟨z, its, n, r, hl, e⟩ := I.lstM hH
  have hfit : ¬ (!Builtin.List.listFitsIndex i) = true := by
    have h1 : i < 9223372036854775808 := by omega
    have h2 : (-9223372036854775808 : Int) ≤ i := by omega
    simp [Builtin.List.listFitsIndex]
    exact ⟨h2, h1⟩
  refine call_meets F.slot_list_insert ⟨_, e, rfl⟩ F.entry_list_insert (F.args_list_insert_3 _ _ _) (AutoSeq1.list_insert_list_int_val_1 l its.toArray n i t u2 hfit (by rw [List.size_toArray]; omega)) ⟨e, ?_⟩
  refine ⟨.non, _, I.lset (its' := its.take i.toNat ++ u2 :: its.drop i.toNat) hH e ?_ ((Vals.take' _ r).append (.cons r2 (Vals.drop' _ r))) ?_, rfl, q⟩
  · have hk : min i.toNat its.toArray.size = i.toNat := by
      rw [List.size_toArray]
      omega
    simp only [if_neg (show ¬ i < 0 by omega), hk]
    simp
    exact List.take_of_length_le (by rw [List.length_drop]; omega)
  · rw [List.length_append, List.length_cons, List.length_take, List.length_drop]
    have : 1000 ≤ sizeLine := by decide
    omega
end
structure QA (X : Cx) (es : List Expr) (t : TA) : Prop where
  pa : PA X es t
end Lw
end
section
set_option Elab.async false
set_option linter.all false
set_option maxRecDepth 100000
set_option maxHeartbeats 4000000
namespace Lw
open PySem PySem.Spec PyProof.Rows L2
section
variable {X : Cx}
end
end Lw
end
section
set_option Elab.async false
set_option linter.all false
set_option maxRecDepth 100000
set_option maxHeartbeats 4000000
namespace Lw
open PySem PySem.Spec PyProof.Rows L2
theorem u1 {n m : Nat} (h : n + 64 < m) : n + 1 < m := by omega
structure TL (kvs : List (Key × V)) (ks : List Str) (f : Str → Int) : Prop where
  key : kvs.map (·.1) = ks.map Sum.inr
  nd : ks.Nodup
  val : ∀ x, valV kvs (Sum.inr x) = if x ∈ ks then some (.int (f x)) else none
  out : ∀ x, x ∉ ks → f x = 0
end Lw
end
section
set_option Elab.async false
set_option linter.all false
set_option maxRecDepth 100000
set_option maxHeartbeats 4000000
namespace Lw
open PySem PySem.Spec PyProof.Rows L2
section
variable {prog : Program} {w : World} {A : Around} {E : Value → Shared → Prop} {s : Shared}
end
section
variable {X : Cx}
end
inductive Rch (gs : List Gm) (n : Str) : Str → Prop where
  | here : Rch gs n n
  | step {x y : Str} : Rch gs n x → y ∈ tkr x gs → Rch gs n y
end Lw
end
section
set_option Elab.async false
set_option linter.all false
set_option maxRecDepth 100000
set_option maxHeartbeats 4000000
namespace Lw
open PySem PySem.Spec PyProof.Rows L2
def Bits (ns : List Int) : Prop := ∀ n ∈ ns, Builtin.Int.intBits n ≤ 2 ^ 20
theorem bits_of {ns : List Int} (h : PySem.W.WData.layableAll [PySem.W.WData.list (ns.map PySem.W.WData.int)] = true) : Bits ns := fun n hn => by
  have h1 := PySem.W.layableW_arg h _ (List.mem_singleton.mpr rfl)
  have h2 := PySem.W.layableW_item h1 (.int n) (List.mem_map.mpr ⟨n, hn, rfl⟩)
  have h3 := PySem.W.lay0_int h2
  have h4 : PyData.layable0 (.int n) = true := by
    have := h3
    simp only [PyData.layableAll0, List.all_cons, List.all_nil, Bool.and_true] at this
    exact this
  exact PyData.bits_of_layable h4
section
variable {X : Cx}
theorem o_mulB : OpR X (binaryOp .Mult) (dI IntMulOk fun i j => .int (i * j)) := opD (opI fun _ _ _ _ _ _ _ hc q => mul_int q hc)
end
section
variable {P : Program} {w : World} {K : PySem.W.Frag} {mg : Str → Option Value} {base : Heap}
end
open PySem PySem.W PySem.Calls PyProof.Rows in
theorem attach_callB {l : OpenLaw} {n : Nat} {q : Program} {loose : List Str} {XP : (Str → Option Value) → Heap → Prop} {YP : World → Heap → Prop} {d : DefRec} (hn : l.most = some n) (nodf : d.params.defaults = [])
    (go : ∀ (w : World) (t₀ t : Shared) (mg mb : Str → Option Value) (fa : Addr) (o : Obj) (pm cd doc : Value) (a : Addr) (vs : List Value) (ns : List Int), Bits ns → Ground q loose [] XP w t₀ mg mb t.heap → YP w t.heap → t.heap.get? fa = some o → o.data = .func (docDef d.name d.params d.body d.scope pm cd doc) → t.heap.CodeRec cd d.name → mg d.name = some (.ref fa) → t.heap.get? a = some { cls := .type "list", data := .seq vs.toArray } → IntsAre vs ns → ns.length ≤ n → t.gens = #[] →
      codeAny (model l.prog w) callerA (.call (.ref fa) ⟨[.ref a], []⟩) (fun r z => r = .ok (.ret (.bool true)) ∧ OldK t.heap z.heap ∧ z.os = t.os ∧ AllBare z.gens) t) : WalkO q loose XP YP l.row.toRowW d [] (fun f vs => PySem.call f vs) := by
  intro w t₀ t mg mb G Y fa o pm cd doc dV kV x1 x2 x3 x4 x5 x6 args vals as pre lay rd wl lo
  have e1 : dV = .none := Dflts.none x4 nodf
  have e2 : kV = .none := Dflts.noKw x4
  subst e1 e2
  obtain ⟨a, vs, ns, rfl, rfl, y1, y2, y3⟩ := Att.script_of hn pre wl
  have run := go w t₀ t mg mb fa o pm cd doc a vs ns (bits_of lay) G Y x1 (fd_plain x2) x3 x5 y1 y2 y3 x6
  refine enter_call (codeAny_mono run fun r z hq => ?_)
  obtain ⟨rfl, z2, z3, z4⟩ := hq
  refine ⟨.inl ⟨.bool true, .bool true, [], rfl, fun _ => rfl, .bool true, Att.post_true l _, fun _ => ⟨List.Pairwise.nil, fun _ no => (nomatch no)⟩⟩, z2, z3, z4⟩
end Lw
end
section
set_option Elab.async false
set_option linter.all false
set_option maxRecDepth 100000
set_option maxHeartbeats 4000000
set_option autoImplicit false
namespace Lw
open PySem PySem.Spec PyProof.Rows L2 PySem.W
def sp_lawBT (x : Str) (K : PySem.W.Frag) (ns : List Int) : Sp := fun vs H Q _ => match vs with
  | [.ref a] => SqL K H a (ns.map V.int) ∧ ns.length ≤ 63 ∧ Bits ns ∧ H (tabP K x) = some (.tbl #[]) ∧ ∀ H', Q (.bl true) H'
  | _ => False
def sp_lawABT (x : Str) (K : PySem.W.Frag) : Sp := fun vs H Q _ => ∃ (ns : List Int) (a : Addr), vs = [.ref a] ∧ SqL K H a (ns.map V.int) ∧ ns.length ≤ 63 ∧ Bits ns ∧ H (tabP K x) = some (.tbl #[]) ∧ ∀ H', Q (.bl true) H'
section
variable {P : Program} {w : World} {K : PySem.W.Frag} {mg : Str → Option Value} {base : Heap}
theorem law_fnBT {x : Str} {k : Nat} {st : Stmt} {f : Addr} {fd : FuncData} (F : Fun K "law" "law" st f fd) (hm : mg "law" = some (.ref f)) (C : ∀ ns, Cal P w K mg base "law" ["_law_script"] k (sp_lawBT x K ns)) : FnOk P w K mg base (CXE P w) k f fd ["_law_script"] (sp_lawABT x K) := by
  refine ⟨fun vs H Q E h => ?_, fun A outer s H args us vs Q E hr he hb hv hs => ?_⟩
  · obtain ⟨ns, a, rfl, _⟩ := h
    rfl
  · obtain ⟨ns, a, rfl, h1, h2, h3, h4, h5⟩ := hs
    obtain ⟨f', fd', e1, e2, e3, G, oc', od', osl', lk'⟩ := (C ns).ex
    obtain ⟨oc, od, kV, doc, pm, an, cdv, ct, osl, _, lk, _⟩ := F.ex
    rw [hm] at e1
    cases e1
    rw [lk] at lk'
    cases lk'
    exact G.run A outer s H args us _ Q E hr he hb hv ⟨h1, h2, h3, h4, h5⟩
end
theorem walk_ofBT {l : PySem.W.OpenLaw} {n k : Nat} {q : Program} {loose : List Str} {XP : (Str → Option Value) → Heap → Prop} {YP : World → Heap → Prop} {d : DefRec} {K : Params → PySem.W.Frag} {CX : World → CXT} {sp : World → Sp} {x y : Str} {ts : List Addr}
    (hn : l.most = some n) (hn2 : n ≤ sizeLine) (hdf : d.params.defaults = []) (hr : Room k callerA) (hY : ∀ (w : World) (h : Heap), YP w h → (K w.params).In h)
    (hT : ∀ (w : World) (h : Heap), YP w h → ∀ P ∈ ts, h.get? P = some (tabObj #[]))
    (F : ∀ (w : World) (mg : Str → Option Value) (fa : Addr) (h : Heap), (K w.params).In h → h.Ns mainGlobals mg → mg d.name = some (.ref fa) → (∃ c P, PySem.W.tabIn (K w.params) y = some (c, P) ∧ codeHdIn (K w.params) c P = true ∧ (K w.params).lookup P = none ∧ P ∈ ts) ∧ ∃ fd : FuncData, (∀ (s : Shared) (u : Value), BindsTo s fd ⟨[u], []⟩ [(x, u)]) ∧ ∀ base : Heap, (K w.params).In base → base.Ns mainGlobals mg → BmB mg base → FnOk l.prog w (K w.params) mg base (CX w) k fa fd [x] (sp w))
    (hsp : ∀ (w : World) (H : Hp) (a : Addr) (ns : List Int), ns.length ≤ n → Bits ns → OnlyT (tabP (K w.params) y) H → SqL (K w.params) H a (ns.map V.int) → sp w [.ref a] H (fun v _ => v = .bl true) fun _ _ _ => False)
    (hCX : ∀ (w : World) (H : Hp) (s : Shared) (e : Value) (s' : Shared), CX w [] H s (fun _ _ _ => False) e s' → False) : PySem.W.WalkO q loose XP YP l.row.toRowW d [] (fun f vs => PySem.call f vs) := by
  refine attach_callB hn hdf fun w t₀ t mg mb fa o pm cd doc a vs ns bits G Y x1 x2 x3 x5 y1 y2 y3 x6 => ?_
  have KX := hY w _ Y
  obtain ⟨⟨c, T, tb, hC, kT, mT⟩, fd, bd, ok⟩ := F w mg fa _ KX G.T.g x5
  have C : CodeHd t.heap c T := codeHd_of_K KX hC
  have eT := hT w _ Y T mT
  exact law_callT KX G.T.g G.T.b G.T.builtins G.T.nolimit x6 y1 y2 (Nat.le_trans y3 hn2) hr C eT kT G.T.bmain ok bd (fun H only sq => hsp w H a ns y3 bits (by rw [tabP_eq tb]; exact only) sq) fun H e z => hCX w H t e z
end Lw
end
section
set_option Elab.async false
set_option linter.all false
set_option maxRecDepth 100000
set_option maxHeartbeats 4000000
set_option autoImplicit false
namespace Lw
open PySem PySem.Spec PyProof.Rows L2
structure DfnM (K : PySem.W.Frag) (Cs Ds : List Addr) (m qual : Str) (st : Stmt) (ps : List Str) : Prop where
  ex : ∃ (f : Addr) (fd : FuncData), Fun K m qual st f fd ∧ (∀ C ∈ Cs, Meth K C m f) ∧ (∀ C ∈ Ds, PySem.W.findCls K (.ref C) (.type "type") m = some (.val (.ref f))) ∧ Binds K fd ps []
structure CalM (P : Program) (w : World) (K : PySem.W.Frag) (mg : Str → Option Value) (base : Heap) (Cs Ds : List Addr) (m : Str) (ps : List Str) (k : Nat) (sp : Sp) : Prop where
  ex : ∃ (f : Addr) (fd : FuncData), (∀ C ∈ Cs, Meth K C m f) ∧ (∀ C ∈ Ds, PySem.W.findCls K (.ref C) (.type "type") m = some (.val (.ref f))) ∧ PySem.W.keepIn K (.ref f) = true ∧ Binds K fd ps [] ∧ FnOk P w K mg base (CXE P w) k f fd ps sp
section
variable {P : Program} {w : World} {K : PySem.W.Frag} {mg : Str → Option Value} {base : Heap} {Cs Ds : List Addr}
theorem DfnM.calX {m qual : Str} {st : Stmt} {N ps : List Str} {k : Nat} {sp : Sp} (d : DfnM K Cs Ds m qual st ps) (S : FnScope N ps (defScope st)) (len : ∀ vs H Q E, sp vs H Q E → vs.length = ps.length)
    (hbody : ∀ (f : Addr) (cdv : Value) (A : Around) (outer : List Env) (s : Shared) (H : Hp) (vs : List V) (Q : VK) (E : XK), Room k (A.deeper (envOfC qual (defScope st) s.heap.objs.size f cdv)) → sp vs H Q E →
      ∃ t, PSs (cxOf (CXE P w) P w K mg base N qual (defScope st) f cdv A outer s H E) (defBody st) t ∧ t { nx := fun _ H' => Q .non H', rt := Q } (start N vs) H) : CalM P w K mg base Cs Ds m ps (k + 1) sp := by
  obtain ⟨f, fd, F, hm, hd, hb⟩ := d.ex
  obtain ⟨oc, od, kV, doc, pm, an, cdv, ct, osl, rfl, lk, hcd⟩ := F.ex
  exact ⟨f, _, hm, hd, F.kp, hb, fn_of lk hcd S len fun A outer s H vs Q E hr hsp => hbody f cdv A outer s H vs Q E hr hsp⟩
theorem DfnM.cal {m qual : Str} {st : Stmt} {N ps : List Str} {k : Nat} {sp : Sp} (d : DfnM K Cs Ds m qual st ps) (S : FnScope N ps (defScope st)) (len : ∀ vs H Q E, sp vs H Q E → vs.length = ps.length)
    (hbody : ∀ (f : Addr) (cdv : Value) (A : Around) (outer : List Env) (s : Shared) (H : Hp) (vs : List V) (Q : VK) (E : XK), Room k (A.deeper (envOfC qual (defScope st) s.heap.objs.size f cdv)) → sp vs H Q E →
      ∃ t, PSs (cxOf (CXE P w) P w K mg base N qual (defScope st) f cdv A outer s H E).nox (defBody st) t ∧ t { nx := fun _ H' => Q .non H', rt := Q } (start N vs) H) : CalM P w K mg base Cs Ds m ps (k + 1) sp :=
  d.calX S len fun f cdv A outer s H vs Q E hr hsp => by
    obtain ⟨t, h, q⟩ := hbody f cdv A outer s H vs Q E hr hsp
    exact ⟨t, h.nox, q⟩
def MV (P : Program) (w : World) (K : PySem.W.Frag) (mg : Str → Option Value) (base : Heap) (m : Str) (k : Nat) (T : List (Addr × Sp)) : Prop :=
  ∀ p ∈ T, ∃ (f : Addr) (fd : FuncData) (ps : List Str), Cls K p.1 ∧ Meth K p.1 m f ∧ Binds K fd ps [] ∧ FnOk P w K mg base (CXE P w) k f fd ps p.2
theorem mv_nil {m : Str} {k : Nat} : MV P w K mg base m k [] := fun p hp => by cases hp
theorem mv_cons {C : Addr} {m : Str} {ps : List Str} {k k' : Nat} {sp : Sp} {T : List (Addr × Sp)} (c : CalM P w K mg base Cs Ds m ps k sp) (hC : C ∈ Cs) (cl : Cls K C) (hk : k ≤ k') (r : MV P w K mg base m k' T) : MV P w K mg base m k' ((C, sp) :: T) := fun p hp => by
  rcases List.mem_cons.mp hp with rfl | hp
  · obtain ⟨f, fd, h1, _, _, h3, h4⟩ := c.ex
    exact ⟨f, fd, ps, cl, h1 C hC, h3, h4.mono hk⟩
  · exact r p hp
end
def dMethV (T : List (Addr × Sp)) (m : Str) (E : XK) (ta : TE) (t : TA) : TE := fun σ H Q => ta σ H fun x H1 => ∃ a C dx fs sp, x = .ref a ∧ H1 a = some (.ins C dx fs) ∧ (C, sp) ∈ T ∧ fs.lookup m = none ∧ t σ H1 fun vs H2 => sp (.ref a :: vs) H2 Q E
structure MkC (K : PySem.W.Frag) (C : Addr) : Prop where
  makes : PySem.W.makesIn K C = true
  kp : PySem.W.keepIn K (.ref C) = true
structure RdC (K : PySem.W.Frag) (C : Addr) : Prop where
  reads : PySem.W.readsIn K C (.type "type") = true
  ga : PySem.W.specialIn K (.ref C) "__getattribute__" = some (some (.builtin "type.__getattribute__"))
def dMake (C : Addr) (sp : Sp) (E : XK) (t : TA) : TE := fun σ H Q => t σ H fun vs H1 => ∀ x dx, H1 x = none → H1 dx = none → dx ≠ x →
  sp (.ref x :: vs) (upd (upd H1 dx (.own x)) x (.ins C dx [])) (fun v H2 => v = .non ∧ Q (.ref x) H2) E
theorem dMake_eq (C : Addr) (sp : Sp) (E : XK) (t : TA) : dMake C sp E t = tMake C sp [] E t := by
  funext σ H Q
  unfold dMake tMake
  simp only [List.append_nil]
section
variable {X : Cx} {pos p : Pos} {Cs Ds : List Addr} {E : XK}
theorem methG {o e : Expr} {es : List Expr} {ta : TE} {t : TA} {T : List (Addr × Sp)} {m : Str} {k : Nat} {apos : Pos} {pl : Sem Bool} (he : PE X o ta) (hT : MV X.prog X.w X.K X.mg X.base m k T) (hr : Room k X.A) (hx : Passes (CXE X.prog X.w) X E) (ha : PA X (e :: es) t)
    (hst : starEach (e :: es) X.env = (false, eval e X.env) :: starEach es X.env) (hpl : (backTo pos (starEach es X.env)).any (·.1) = false)
    (ht : eval (.Call (.Attribute o m apos) (e :: es) [] pos) X.env = (do
      let ov ← eval o X.env
      standAt apos.atName
      let (f, first) ← holding [ov] (getMethod ov m pl)
      callWith pos f first (backTo pos (starEach (e :: es) X.env)) (backToKw pos (keywordEach [] X.env)))) :
    PE X (.Call (.Attribute o m apos) (e :: es) [] pos) (dMethV T m E ta t) := by
  intro pins s σ H Q I h
  refine PySem.W.methodCall_KW (pl := pl) (thn (he pins s σ H _ I h) fun u s1 ⟨x, H1, I1, rx, a, C, dx, fs, sp, ex, ea, hC, l, q⟩ => ?_) ht
  subst ex
  obtain rfl : u = Value.ref a := rx
  obtain ⟨f, fd, ps, c, hm, hb, F⟩ := hT _ hC
  refine getmeth_ok I1 ea c hm l ?_
  refine PySem.W.callWith_K (first := [.ref a]) (h₀ := X.base) I.ok.mod.kin hm.kp (thn (ha pos pins s1 σ H1 _ I1 q) fun us s2 ⟨vs, H2, I2, r, q2⟩ => ⟨I2.kIn, ?_⟩) hst hpl
  exact run_fn (us := .ref a :: us) (vs := .ref a :: vs) (dvs := []) F hr hb .nil hx I2 (.cons rfl r) (by rw [List.append_nil]; exact q2)
theorem methG0 {o : Expr} {ta : TE} {T : List (Addr × Sp)} {m : Str} {k : Nat} {apos : Pos} {pl : Sem Bool} (he : PE X o ta) (hT : MV X.prog X.w X.K X.mg X.base m k T) (hr : Room k X.A) (hx : Passes (CXE X.prog X.w) X E)
    (ht : eval (.Call (.Attribute o m apos) [] [] pos) X.env = (do
      let ov ← eval o X.env
      standAt apos.atName
      let (f, first) ← holding [ov] (getMethod ov m pl)
      callWith pos f first (backTo pos (starEach [] X.env)) (backToKw pos (keywordEach [] X.env)))) :
    PE X (.Call (.Attribute o m apos) [] [] pos) (dMethV T m E ta tNil) := by
  intro pins s σ H Q I h
  refine PySem.W.methodCall_KW (pl := pl) (thn (he pins s σ H _ I h) fun u s1 ⟨x, H1, I1, rx, a, C, dx, fs, sp, ex, ea, hC, l, q⟩ => ?_) ht
  subst ex
  obtain rfl : u = Value.ref a := rx
  obtain ⟨f, fd, ps, c, hm, hb, F⟩ := hT _ hC
  refine getmeth_ok I1 ea c hm l ?_
  exact PySem.W.callWith_K0 (first := [.ref a]) I1.kIn hm.kp (run_fn (us := [.ref a]) (vs := [.ref a]) (dvs := []) F hr hb .nil hx I1 (.cons rfl .nil) q)
theorem e_methV {o e : Expr} {es : List Expr} {ta : TE} {t : TA} {T : List (Addr × Sp)} {m : Str} {k : Nat} {apos : Pos} {pl : Sem Bool} (he : PE X o ta) (hT : MV X.prog X.w X.K X.mg X.base m k T) (hr : Room k X.A) (ha : PA X (e :: es) t)
    (hst : starEach (e :: es) X.env = (false, eval e X.env) :: starEach es X.env := by rfl) (hpl : (backTo pos (starEach es X.env)).any (·.1) = false := by rfl)
    (ht : eval (.Call (.Attribute o m apos) (e :: es) [] pos) X.env = (do
      let ov ← eval o X.env
      standAt apos.atName
      let (f, first) ← holding [ov] (getMethod ov m pl)
      callWith pos f first (backTo pos (starEach (e :: es) X.env)) (backToKw pos (keywordEach [] X.env))) := by rfl) :
    PE X (.Call (.Attribute o m apos) (e :: es) [] pos) (dMethV T m E0 ta t) := methG he hT hr passX0 ha hst hpl ht
theorem e_methV0 {o : Expr} {ta : TE} {T : List (Addr × Sp)} {m : Str} {k : Nat} {apos : Pos} {pl : Sem Bool} (he : PE X o ta) (hT : MV X.prog X.w X.K X.mg X.base m k T) (hr : Room k X.A)
    (ht : eval (.Call (.Attribute o m apos) [] [] pos) X.env = (do
      let ov ← eval o X.env
      standAt apos.atName
      let (f, first) ← holding [ov] (getMethod ov m pl)
      callWith pos f first (backTo pos (starEach [] X.env)) (backToKw pos (keywordEach [] X.env))) := by rfl) :
    PE X (.Call (.Attribute o m apos) [] [] pos) (dMethV T m E0 ta tNil) := methG0 he hT hr passX0 ht
theorem makeG {x : Str} {C : Addr} {ps : List Str} {k k' : Nat} {sp : Sp} {e : Expr} {es : List Expr} {t : TA} (c : CalM X.prog X.w X.K X.mg X.base Cs Ds "__init__" ps k sp) (hC : C ∈ Cs) (M : MkC X.K C) (hr : Room k' X.A) (hk : k + 1 ≤ k') (hg : Gl X x) (hm : X.mg x = some (.ref C)) (hx : Passes (CXE X.prog X.w) X E)
    (ha : PA X (e :: es) t) (hdb : (x == ("__debug__" : Str)) = false) (he : starEach (e :: es) X.env = (false, eval e X.env) :: starEach es X.env) (hpl : (backTo pos (starEach es X.env)).any (·.1) = false) :
    PE X (.Call (.Name x p) (e :: es) [] pos) (dMake C sp E t) := by
  obtain ⟨f, fd, h1, _, _, h3, h4⟩ := c.ex
  rw [dMake_eq]
  exact pe_make ⟨M.makes, (h1 C hC).at_, (h1 C hC).fn, M.kp⟩ h4 (hr.mono hk) hg hm h3 .nil hx ha hdb he hpl
theorem e_make {x : Str} {C : Addr} {ps : List Str} {k k' : Nat} {sp : Sp} {e : Expr} {es : List Expr} {t : TA} (c : CalM X.prog X.w X.K X.mg X.base Cs Ds "__init__" ps k sp) (hC : C ∈ Cs) (M : MkC X.K C) (hr : Room k' X.A) (hk : k + 1 ≤ k') (hg : Gl X x) (hm : X.mg x = some (.ref C))
    (ha : PA X (e :: es) t) (hdb : (x == ("__debug__" : Str)) = false := by decide) (he : starEach (e :: es) X.env = (false, eval e X.env) :: starEach es X.env := by rfl) (hpl : (backTo pos (starEach es X.env)).any (·.1) = false := by rfl) :
    PE X (.Call (.Name x p) (e :: es) [] pos) (dMake C sp E0 t) := makeG c hC M hr hk hg hm passX0 ha hdb he hpl
structure IsC (K : PySem.W.Frag) (C : Addr) : Prop where
  ha : PySem.W.findIn K (.ref C) "__class__" = some (some (.builtin "object.__class__"))
  hn : PySem.W.specialIn K (.builtin "object.__class__") "__get__" = some (some (.builtin "getset_descriptor.__get__"))
  ht : PySem.W.takesIn K (.builtin "object.__class__") = some true
  hm : PySem.W.mroIn K C (.type "object") = some true
theorem ac_nil {p : Addr → Prop} : ∀ C ∈ ([] : List Addr), p C := fun _ h => by cases h
theorem ac_cons {p : Addr → Prop} {c : Addr} {l : List Addr} (h : p c) (r : ∀ C ∈ l, p C) : ∀ C ∈ c :: l, p C := fun C hC => by
  rcases List.mem_cons.mp hC with rfl | hC
  · exact h
  · exact r C hC
end
end Lw
end
set_option Elab.async false
set_option linter.all false
set_option maxRecDepth 100000
set_option maxHeartbeats 0
set_option exponentiation.threshold 5000
namespace My
open PySem PySem.Spec PyProof.Rows L2 Lw
local macro_rules | `(tactic| walk_at "hp") => `(tactic| first | assumption | (refine sm_at (by assumption) ?_; walk_at "hp") | (refine sm_sq (by assumption) ?_; walk_at "hp") | (refine Fq.up (by assumption) ?_; walk_at "hp") | (refine Pq.up (by assumption) ?_; walk_at "hp"))
def top (i : Nat) : Stmt := PySem.Challenge.pw_ladderworth_k51_games_put_in_and_taken_b.main.body.getD i (.Pass ⟨0, 0, 0, 0⟩)
abbrev s_is_whole : Stmt := top 8
abbrev s_fraction : Stmt := top 9
abbrev s_greatest_divisor : Stmt := top 10
abbrev s_under : Stmt := top 11
abbrev s_is_between : Stmt := top 13
abbrev s_check_size : Stmt := top 17
abbrev s_in_order : Stmt := top 18
abbrev s_players : Stmt := top 19
abbrev s_Ledger___init__ : Stmt := inClass (top 21) 0
abbrev s_Ledger_put : Stmt := inClass (top 21) 1
abbrev s_Ledger_take : Stmt := inClass (top 21) 2
abbrev s_Ledger_games : Stmt := inClass (top 21) 3
abbrev s_reached : Stmt := top 22
abbrev s_behind : Stmt := top 23
abbrev s_table_of : Stmt := top 29
abbrev s_is_row : Stmt := top 30
abbrev s_is_pair : Stmt := top 31
abbrev s_is_share : Stmt := top 32
abbrev s_goes_on : Stmt := top 33
abbrev s_Rule___init__ : Stmt := inClass (top 34) 0
abbrev s_Rule_twin : Stmt := inClass (top 34) 3
abbrev s_l_cell : Stmt := top 36
abbrev s_l_names : Stmt := top 37
abbrev s_l_game : Stmt := top 38
abbrev s_l_book : Stmt := top 39
abbrev s_l_whole : Stmt := top 40
abbrev s_l_shown : Stmt := top 41
abbrev s_l_put : Stmt := top 42
abbrev s_law : Stmt := top 43
structure Errs (K : PySem.W.Frag) (mg : Str → Option Value) (c_Ledger c_NoTable c_Rule : Addr) : Prop where
  b_Ledger : mg "Ledger" = some (.ref c_Ledger)
  b_NoTable : mg "NoTable" = some (.ref c_NoTable)
  b_Rule : mg "Rule" = some (.ref c_Rule)
  y_NoTable : PySem.W.nsIn K mainGlobals "NoTable" = some (some (.ref c_NoTable))
  x_NoTable : ExcC K c_NoTable
  kv_NoTable : PySem.W.kitOne K (.ref c_NoTable) (.type "ValueError") = some true
  kk_NoTable_Ledger : PySem.W.kitOne K (.ref c_NoTable) (.ref c_Ledger) = some false
  kk_NoTable_NoTable : PySem.W.kitOne K (.ref c_NoTable) (.ref c_NoTable) = some true
  kk_NoTable_Rule : PySem.W.kitOne K (.ref c_NoTable) (.ref c_Rule) = some false
  y_Ledger : PySem.W.nsIn K mainGlobals "Ledger" = some (some (.ref c_Ledger))
  l_Ledger : Cls K c_Ledger
  m_Ledger : MkC K c_Ledger
  na_Ledger_first : NoAttr K c_Ledger "first"
  na_Ledger_kept : NoAttr K c_Ledger "kept"
  na_Ledger_last : NoAttr K c_Ledger "last"
  na_Ledger_rule : NoAttr K c_Ledger "rule"
  na_Ledger_step : NoAttr K c_Ledger "step"
  na_Ledger_table : NoAttr K c_Ledger "table"
  y_Rule : PySem.W.nsIn K mainGlobals "Rule" = some (some (.ref c_Rule))
  l_Rule : Cls K c_Rule
  m_Rule : MkC K c_Rule
  na_Rule_first : NoAttr K c_Rule "first"
  na_Rule_kept : NoAttr K c_Rule "kept"
  na_Rule_last : NoAttr K c_Rule "last"
  na_Rule_rule : NoAttr K c_Rule "rule"
  na_Rule_step : NoAttr K c_Rule "step"
  na_Rule_table : NoAttr K c_Rule "table"
section
variable {P : Program} {w : World} {K : PySem.W.Frag} {mg : Str → Option Value} {base : Heap} {ns : List Int}
variable {c_Ledger c_NoTable c_Rule : Addr} {a_FIRST_ROW : Addr} {b_FIRST_ROW_1 : Addr}
--@thinall
theorem nb {P : Prop} {a b : Bool} (h : a = b) (n : (a == b) = false := by rfl) : P := by
  subst h
  rw [beq_self_eq_true] at n
  cases n
def wh : V → Bool
  | .int _ => true
  | _ => false
def Kd (H : Hp) : V → Prop
  | .int _ => True
  | .bl _ => True
  | .non => True
  | .str _ => True
  | .ref p => ∃ u t, H p = some u ∧ tyHO u = some t ∧ tyB t "int" = some false
  | _ => False
theorem Kd.up {H H' : Hp} (s : Same H H') : ∀ {v : V}, Kd H v → Kd H' v
  | .int _, h => h
  | .bl _, h => h
  | .non, h => h
  | .str _, h => h
  | .ref p, ⟨u, t, h1, h2⟩ => ⟨u, t, s _ _ h1, h2⟩
  | .flt _, h => h.elim
  | .byt _, h => h.elim
  | .ty _, h => h.elim
def ExN (K : PySem.W.Frag) (x : Str) (E : XK) (H : Hp) : Prop := ∀ C, PySem.W.nsIn K mainGlobals x = some (some (.ref C)) → E (.ref C) none H
def sp_is_whole (K : PySem.W.Frag) (ns : List Int) : Sp := fun vs H Q _ => match vs with
  | [v] => Kd H v ∧ Q (.bl (wh v)) H
  | _ => False
theorem sc_is_whole : FnScope ["thing"] ["thing"] (defScope s_is_whole) := ⟨rfl, rfl, rfl, by decide +kernel, rfl, by decide +kernel, by decide +kernel⟩
theorem ok_is_whole (d : Dfn K mg "is_whole" s_is_whole ["thing"]) (er : Errs K mg c_Ledger c_NoTable c_Rule) (n_isinstance : mg "isinstance" = none) (n_bool : mg "bool" = none) (n_int : mg "int" = none)   : Cal P w K mg base "is_whole" ["thing"] 1 (sp_is_whole K ns) := by
  refine d.cal (k := 0) sc_is_whole (fun vs H Q E h => ?_) (fun f cdv A outer s H vs Q E hr h => ?_)
  · match vs, h with
    | [_], _ => rfl
  · refine ⟨_, (@pss_one _ _ _ (@ps_ret _ _ _ _ (@e_and _ _ _ _ _ _ _ (@pe_callB _ _ _ _ _ _ _ _ _ c_isi (by rfl) n_isinstance (by decide +kernel) (@pa_cons _ _ _ _ _ (dv 0) (@pa_cons _ _ _ _ _ (e_ty "int" (by rfl) n_int (by decide +kernel)) pa_nil (by rfl)) (by rfl)) (by decide) (by decide) (by rfl) (by rfl)) (@pe_one _ _ _ _ _ (@e_not _ _ _ _ (@pe_callB _ _ _ _ _ _ _ _ _ c_isi (by rfl) n_isinstance (by decide +kernel) (@pa_cons _ _ _ _ _ (dv 0) (@pa_cons _ _ _ _ _ (e_ty "bool" (by rfl) n_bool (by decide +kernel)) pa_nil (by rfl)) (by rfl)) (by decide) (by decide) (by rfl) (by rfl))))))), ?_⟩
    match vs, h with
    | [.int _], ⟨_, q⟩ => exact ⟨true, rfl, fun _ => ⟨false, rfl, q⟩, fun h => absurd h (by decide)⟩
    | [.bl _], ⟨_, q⟩ => exact ⟨true, rfl, fun _ => ⟨true, rfl, q⟩, fun h => absurd h (by decide)⟩
    | [.non], ⟨_, q⟩ => exact ⟨false, rfl, fun h => absurd h (by decide), fun _ => q⟩
    | [.str _], ⟨_, q⟩ => exact ⟨false, rfl, fun h => absurd h (by decide), fun _ => q⟩
    | [.ref _], ⟨⟨u, t, h1, h2, h3⟩, q⟩ => exact ⟨u, false, t, h1, h2, h3, fun h => absurd h (by decide), fun _ => q⟩
    | [.flt _], ⟨z, _⟩ => exact z.elim
    | [.byt _], ⟨z, _⟩ => exact z.elim
    | [.ty _], ⟨z, _⟩ => exact z.elim
def sp_greatest_divisor (K : PySem.W.Frag) (ns : List Int) : Sp := fun vs H Q _ => match vs with
  | [.int x, .int y] => Q (.int (Int.gcd x y : Int)) H
  | _ => False
theorem sc_greatest_divisor : FnScope ["one", "other", "rest"] ["one", "other"] (defScope s_greatest_divisor) := ⟨rfl, rfl, rfl, by decide +kernel, rfl, by decide +kernel, by decide +kernel⟩
theorem ok_greatest_divisor (d : Dfn K mg "greatest_divisor" s_greatest_divisor ["one", "other"]) (er : Errs K mg c_Ledger c_NoTable c_Rule) (n_abs : mg "abs" = none)   : Cal P w K mg base "greatest_divisor" ["one", "other"] 1 (sp_greatest_divisor K ns) := by
  refine d.cal (k := 0) sc_greatest_divisor (fun vs H Q E h => ?_) (fun f cdv A outer s H vs Q E hr h => ?_)
  · match vs, h with
    | [.int x, .int y], _ => rfl
  · match vs, h with
    | [.int x, .int y], q =>
      refine ⟨_, (@pss_cons _ _ _ _ _ (@s_while _ _ _ _ _ _ PassesOwn.never (@t_cmp _ _ _ _ _ _ _ _ o_ne (dv 1) pe_int (@nomark _ _ (by decide) (by decide))) (@pss_cons _ _ _ _ _ (@ps_set _ _ (2) _ _ _ _ sc_greatest_divisor.nd rfl (by first | exact Or.inl rfl | exact Or.inr rfl) (@pe_op _ _ _ _ _ _ _ _ o_modN (dv 0) (dv 1)) (by rfl) (by first | exact .inl rfl | exact .inr rfl | assumption)) (@pss_cons _ _ _ _ _ (@ps_set _ _ (0) _ _ _ _ sc_greatest_divisor.nd rfl (by first | exact Or.inl rfl | exact Or.inr rfl) (dv 1) (by rfl) (by first | exact .inl rfl | exact .inr rfl | assumption)) (@pss_one _ _ _ (@ps_set _ _ (1) _ _ _ _ sc_greatest_divisor.nd rfl (by first | exact Or.inl rfl | exact Or.inr rfl) (dv 2) (by rfl) (by first | exact .inl rfl | exact .inr rfl | assumption)))))) (@pss_one _ _ _ (@ps_ret _ _ _ _ (@pe_callB _ _ _ _ _ _ _ _ _ c_abs (by rfl) n_abs (by decide +kernel) (@pa_cons _ _ _ _ _ (dv 0) pa_nil (by rfl)) (by decide) (by decide) (by rfl) (by rfl))))), ?_⟩
      refine ⟨fun m σ H' => ∃ a b o, σ = [some (.int a), some (.int b), o] ∧ H' = H ∧ Int.gcd a b = Int.gcd x y ∧ m = b.natAbs, ⟨_, x, y, none, rfl, rfl, rfl, rfl⟩, ?_⟩
      rintro m σ H' ⟨a, b, o, rfl, rfl, g, rfl⟩
      refine ⟨fun h => ?_, fun h => ?_⟩
      · have hb : ¬ b = 0 := by simpa using h
        refine ⟨hb, ?_⟩
        exact ⟨(a.fmod b).natAbs, fmod_lt a hb, b, a.fmod b, _, rfl, rfl, by rw [gcd_fmod, g], rfl⟩
      · have hb : b = 0 := by simpa using h
        subst hb
        have e : (Int.gcd x y : Int) = (a.natAbs : Int) := by
          rw [← g, Int.gcd_zero_right]
        have q : Q (.int (Int.gcd x y : Int)) H' := q
        rw [e] at q
        exact q
def sp_fraction (K : PySem.W.Frag) (ns : List Int) : Sp := fun vs H Q _ => match vs with
  | [.int t, .int b] => (b ≠ 0 ∧ Bd 4000 b) ∧ ∀ p H', Same H H' → FrAt H' p t b → Q (.ref p) H'
  | _ => False
theorem sc_fraction : FnScope ["top", "bottom", "divisor"] ["top", "bottom"] (defScope s_fraction) := ⟨rfl, rfl, rfl, by decide +kernel, rfl, by decide +kernel, by decide +kernel⟩
theorem ok_fraction (d : Dfn K mg "fraction" s_fraction ["top", "bottom"]) (er : Errs K mg c_Ledger c_NoTable c_Rule)   (c_greatest_divisor : Cal P w K mg base "greatest_divisor" ["one", "other"] 1 (sp_greatest_divisor K ns)) (c_is_whole : Cal P w K mg base "is_whole" ["thing"] 1 (sp_is_whole K ns)) : Cal P w K mg base "fraction" ["top", "bottom"] 2 (sp_fraction K ns) := by
  refine d.cal (k := 1) sc_fraction (fun vs H Q E h => ?_) (fun f cdv A outer s H vs Q E hr h => ?_)
  · match vs, h with
    | [.int t, .int b], _ => rfl
  · match vs, h with
    | [.int t, .int b], ⟨⟨b0, b1⟩, q⟩ =>
      refine ⟨_, (@pss_cons _ _ _ _ _ (@s_if _ _ _ _ _ _ _ _ (@L2.PW.pt _ _ _ (@w_or _ _ _ _ _ _ _ (@pt_not _ _ _ _ (@t_val _ _ _ (@e_call _ _ _ _ _ _ _ _ _ _ _ c_is_whole hr (by decide) (by rfl) (@pa_cons _ _ _ _ _ (dv 0) pa_nil (by rfl)) (by decide) (by rfl) (by rfl)) (by intro _; rfl))) (@pw_or1 _ _ _ _ (@pt_not _ _ _ _ (@t_val _ _ _ (@e_call _ _ _ _ _ _ _ _ _ _ _ c_is_whole hr (by decide) (by rfl) (@pa_cons _ _ _ _ _ (dv 1) pa_nil (by rfl)) (by decide) (by rfl) (by rfl)) (by intro _; rfl)))))) (@pss_one _ _ _ ps_never) pss_nil) (@pss_cons _ _ _ _ _ (@s_if _ _ _ _ _ _ _ _ (@t_cmp _ _ _ _ _ _ _ _ o_eq (dv 1) pe_int (@nomark _ _ (by decide) (by decide))) (@pss_one _ _ _ ps_never) pss_nil) (@pss_cons _ _ _ _ _ (@ps_set _ _ (2) _ _ _ _ sc_fraction.nd rfl (by first | exact Or.inl rfl | exact Or.inr rfl) (@e_call _ _ _ _ _ _ _ _ _ _ _ c_greatest_divisor hr (by decide) (by rfl) (@pa_cons _ _ _ _ _ (dv 0) (@pa_cons _ _ _ _ _ (dv 1) pa_nil (by rfl)) (by rfl)) (by decide) (by rfl) (by rfl)) (by rfl) (by first | exact .inl rfl | exact .inr rfl | assumption)) (@pss_cons _ _ _ _ _ (@s_if _ _ _ _ _ _ _ _ (@t_cmp _ _ _ _ _ _ _ _ o_lt (dv 1) pe_int (@nomark _ _ (by decide) (by decide))) (@pss_one _ _ _ (@ps_set _ _ (2) _ _ _ _ sc_fraction.nd rfl (by first | exact Or.inl rfl | exact Or.inr rfl) (@pe_un _ _ _ _ _ _ u_neg (dv 2)) (by rfl) (by first | exact .inl rfl | exact .inr rfl | assumption))) pss_nil) (@pss_one _ _ _ (@ps_ret _ _ _ _ (@e_tup _ _ _ _ _ (@pa_cons _ _ _ _ _ (@pe_op _ _ _ _ _ _ _ _ o_divN (dv 0) (dv 2)) (@pa_cons _ _ _ _ _ (@pe_op _ _ _ _ _ _ _ _ o_divN (dv 1) (dv 2)) pa_nil (by rfl)) (by rfl))))))))), ?_⟩
      refine ⟨True.intro, ⟨fun h => nb h, fun _ => ⟨True.intro, ⟨fun h => nb h, fun _ => ?_⟩⟩⟩⟩
      refine ⟨fun h => absurd (of_decide_eq_true h) b0, fun _ => ?_⟩
      have d0 := dvs_ne t b0
      have d1 := bd_dvs t b0 b1
      have e1 := fdiv_T t b0
      have e2 := fdiv_B t b0
      refine ⟨fun h => ?_, fun h => ?_⟩
      · have h := of_decide_eq_true h
        have e : dvs t b = -(Int.gcd t b : Int) := if_pos h
        rw [e] at d0 d1 e1 e2
        refine ⟨⟨d0, d1⟩, ⟨⟨d0, d1⟩, fun p H' s z => q p H' s ⟨?_⟩⟩⟩
        dsimp only at z
        rw [e1, e2] at z
        exact z
      · have h := of_decide_eq_false h
        have e : dvs t b = (Int.gcd t b : Int) := if_neg h
        rw [e] at d0 d1 e1 e2
        refine ⟨⟨d0, d1⟩, ⟨⟨d0, d1⟩, fun p H' s z => q p H' s ⟨?_⟩⟩⟩
        dsimp only at z
        rw [e1, e2] at z
        exact z
theorem none_back {H H' : Hp} {D : Addr} (s : Same H H') (h : H' D = none) : H D = none := by
  cases e : H D with
  | none => rfl
  | some o =>
    rw [s _ _ e] at h
    cases h
theorem at_mod (ns : List Int) (h : 0 < ns.length) (k : Int) : ∃ n ∈ ns, atI (ns.map V.int) (k % (ns.length : Int)) = some (.int n) := by
  have h0 : 0 ≤ k % (ns.length : Int) := Int.emod_nonneg _ (by omega)
  have h1 : k % (ns.length : Int) < ns.length := Int.emod_lt_of_pos _ (by omega)
  obtain ⟨j, hj⟩ := Int.eq_ofNat_of_zero_le h0
  have hj' : j < ns.length := by omega
  refine ⟨ns[j], List.getElem_mem hj', ?_⟩
  rw [hj]
  refine atI_nat ?_
  rw [List.getElem?_map, List.getElem?_eq_getElem hj']
  rfl
theorem sq_small' {k : Int} (h0 : 0 ≤ k) (h1 : k < 1000) : 0 ≤ k * k ∧ k * k < 1000000 := by
  have a := Int.mul_nonneg h0 h0
  have b : k * k ≤ k * 1000 := Int.mul_le_mul_of_nonneg_left (by omega) h0
  exact ⟨a, by omega⟩
def btw (v : V) (lo hi : Int) : Bool := match v with
  | .int i => decide (lo ≤ i) && decide (i ≤ hi)
  | _ => false
def sp_is_between (K : PySem.W.Frag) (ns : List Int) : Sp := fun vs H Q _ => match vs with
  | [v, .int lo, .int hi] => Kd H v ∧ Q (.bl (btw v lo hi)) H
  | _ => False
theorem sc_is_between : FnScope ["thing", "least", "most"] ["thing", "least", "most"] (defScope s_is_between) := ⟨rfl, rfl, rfl, by decide +kernel, rfl, by decide +kernel, by decide +kernel⟩
theorem ok_is_between (d : Dfn K mg "is_between" s_is_between ["thing", "least", "most"]) (er : Errs K mg c_Ledger c_NoTable c_Rule)   (c_is_whole : Cal P w K mg base "is_whole" ["thing"] 1 (sp_is_whole K ns)) : Cal P w K mg base "is_between" ["thing", "least", "most"] 2 (sp_is_between K ns) := by
  refine d.cal (k := 1) sc_is_between (fun vs H Q E h => ?_) (fun f cdv A outer s H vs Q E hr h => ?_)
  · match vs, h with
    | [v, .int lo, .int hi], _ => rfl
  · match vs, h with
    | [v, .int lo, .int hi], ⟨kd, q⟩ =>
      refine ⟨_, (@pss_one _ _ _ (@ps_ret _ _ _ _ (@e_and _ _ _ _ _ _ _ (@e_call _ _ _ _ _ _ _ _ _ _ _ c_is_whole hr (by decide) (by rfl) (@pa_cons _ _ _ _ _ (dv 0) pa_nil (by rfl)) (by decide) (by rfl) (by rfl)) (@pe_one _ _ _ _ _ (@e_chain _ _ _ _ _ _ _ _ _ _ _ _ o_le o_le (dv 1) (dv 0) (dv 2) (by with_unfolding_all rfl)))))), ?_⟩
      match v, kd, q with
      | .int i, _, q =>
        refine ⟨True.intro, ⟨fun _ => ⟨fun h => ?_, fun h => ?_⟩, fun h => nb h⟩⟩
        · have e : btw (.int i) lo hi = decide (i ≤ hi) := by
            have h : decide (lo ≤ i) = true := h
            simp only [btw, h, Bool.true_and]
          rw [e] at q
          exact q
        · have e : btw (.int i) lo hi = false := by
            have h : decide (lo ≤ i) = false := h
            simp only [btw, h, Bool.false_and]
          rw [e] at q
          exact q
      | .bl _, kd, q => exact ⟨kd, ⟨fun h => nb h, fun _ => q⟩⟩
      | .non, kd, q => exact ⟨kd, ⟨fun h => nb h, fun _ => q⟩⟩
      | .str _, kd, q => exact ⟨kd, ⟨fun h => nb h, fun _ => q⟩⟩
      | .ref _, kd, q => exact ⟨kd, ⟨fun h => nb h, fun _ => q⟩⟩
      | .flt _, kd, _ => exact kd.elim
      | .byt _, kd, _ => exact kd.elim
      | .ty _, kd, _ => exact kd.elim
def NT (H : Hp) : V → Prop
  | .int _ => True
  | .bl _ => True
  | .non => True
  | .str _ => True
  | .ref p => ∃ u t, H p = some u ∧ tyHO u = some t ∧ tyB t "tuple" = some false ∧ tyB t "int" = some false
  | _ => False
theorem NT.up {H H' : Hp} (s : Same H H') : ∀ {v : V}, NT H v → NT H' v
  | .int _, h => h
  | .bl _, h => h
  | .non, h => h
  | .str _, h => h
  | .ref p, ⟨u, t, h1, h2⟩ => ⟨u, t, s _ _ h1, h2⟩
  | .flt _, h => h.elim
  | .byt _, h => h.elim
  | .ty _, h => h.elim
def PrAt (H : Hp) (v : V) (b : Bool) : Prop := (∃ t xs, v = .ref t ∧ H t = some (.tup xs) ∧ xs.length ≤ 100 ∧ b = decide ((xs.length : Int) = 2)) ∨ (NT H v ∧ b = false)
def sp_is_pair (K : PySem.W.Frag) (ns : List Int) : Sp := fun vs H Q _ => match vs with
  | [v] => ∃ b, PrAt H v b ∧ Q (.bl b) H
  | _ => False
theorem sc_is_pair : FnScope ["thing"] ["thing"] (defScope s_is_pair) := ⟨rfl, rfl, rfl, by decide +kernel, rfl, by decide +kernel, by decide +kernel⟩
theorem ok_is_pair (d : Dfn K mg "is_pair" s_is_pair ["thing"]) (er : Errs K mg c_Ledger c_NoTable c_Rule) (n_len : mg "len" = none) (n_isinstance : mg "isinstance" = none) (n_tuple : mg "tuple" = none)   : Cal P w K mg base "is_pair" ["thing"] 1 (sp_is_pair K ns) := by
  refine d.cal (k := 0) sc_is_pair (fun vs H Q E h => ?_) (fun f cdv A outer s H vs Q E hr h => ?_)
  · match vs, h with
    | [_], _ => rfl
  · refine ⟨_, (@pss_one _ _ _ (@ps_ret _ _ _ _ (@e_and _ _ _ _ _ _ _ (@pe_callB _ _ _ _ _ _ _ _ _ c_isi (by rfl) n_isinstance (by decide +kernel) (@pa_cons _ _ _ _ _ (dv 0) (@pa_cons _ _ _ _ _ (e_ty "tuple" (by rfl) n_tuple (by decide +kernel)) pa_nil (by rfl)) (by rfl)) (by decide) (by decide) (by rfl) (by rfl)) (@pe_one _ _ _ _ _ (@pe_cmpR _ _ _ _ _ _ _ _ o_eq (@pe_callB _ _ _ _ _ _ _ _ _ c_len (by rfl) n_len (by decide +kernel) (@pa_cons _ _ _ _ _ (dv 0) pa_nil (by rfl)) (by decide) (by decide) (by rfl) (by rfl)) pe_int (@nomark _ _ (by decide) (by decide))))))), ?_⟩
    match vs, h with
    | [.int _], ⟨_, .inr ⟨_, rfl⟩, q⟩ => exact ⟨false, rfl, fun h => nb h, fun _ => q⟩
    | [.bl _], ⟨_, .inr ⟨_, rfl⟩, q⟩ => exact ⟨false, rfl, fun h => nb h, fun _ => q⟩
    | [.non], ⟨_, .inr ⟨_, rfl⟩, q⟩ => exact ⟨false, rfl, fun h => nb h, fun _ => q⟩
    | [.str _], ⟨_, .inr ⟨_, rfl⟩, q⟩ => exact ⟨false, rfl, fun h => nb h, fun _ => q⟩
    | [.ref _], ⟨_, .inr ⟨⟨u, t, h1, h2, h3, _⟩, rfl⟩, q⟩ => exact ⟨u, false, t, h1, h2, h3, fun h => nb h, fun _ => q⟩
    | [.ref _], ⟨_, .inl ⟨_, xs, rfl, h1, _, rfl⟩, q⟩ => exact ⟨_, true, _, h1, rfl, rfl, fun _ => ⟨_, .inr (SqT.of h1), q⟩, fun h => nb h⟩
    | [.flt _], ⟨_, .inr ⟨z, _⟩, _⟩ => exact z.elim
    | [.byt _], ⟨_, .inr ⟨z, _⟩, _⟩ => exact z.elim
    | [.ty _], ⟨_, .inr ⟨z, _⟩, _⟩ => exact z.elim
def two (a b : V) : Option (Int × Int) := match a, b with
  | .int p, .int q => some (p, q)
  | _, _ => none
def ShAt (H : Hp) (v : V) (o : Option (Int × Int)) : Prop := (∃ t a b, v = .ref t ∧ H t = some (.tup [a, b]) ∧ Kd H a ∧ Kd H b ∧ o = two a b) ∨ (PrAt H v false ∧ o = none)
theorem PrAt.up {H H' : Hp} {v : V} {b : Bool} (s : Same H H') (h : PrAt H v b) : PrAt H' v b := by
  rcases h with ⟨t, xs, a, e, z⟩ | ⟨a, e⟩
  · exact .inl ⟨t, xs, a, s _ _ e, z⟩
  · exact .inr ⟨a.up s, e⟩
theorem ShAt.up {H H' : Hp} {v : V} {o : Option (Int × Int)} (s : Same H H') (h : ShAt H v o) : ShAt H' v o := by
  rcases h with ⟨t, a, b, e, h1, h2, h3, h4⟩ | ⟨a, e⟩
  · exact .inl ⟨t, a, b, e, s _ _ h1, h2.up s, h3.up s, h4⟩
  · exact .inr ⟨a.up s, e⟩
def shOk : Option (Int × Int) → Bool
  | some (p, q) => decide (1 ≤ q ∧ q ≤ 9999 ∧ 0 ≤ p ∧ p ≤ q ∧ Int.gcd p q = 1)
  | none => false
theorem gcd1_low {p q : Int} (h : Int.gcd p q = 1) : lowT p q = p ∧ lowB p q = q := by
  unfold lowT lowB
  rw [h]
  exact ⟨Int.ediv_one _, Int.ediv_one _⟩
theorem fr_low {t b : Int} (hb : 0 < b) : frT t b = lowT t b ∧ frB t b = lowB t b := by
  unfold frT frB
  rw [if_neg (by omega), if_neg (by omega)]
  exact ⟨rfl, rfl⟩
def qd (x : Q2) : PyData := .tuple [.int x.1, .int x.2]
theorem eqv_qd (p q : Q2) : PyData.eqv (qd p) (qd q) = decide (p = q) := by
  show ((p.1 == q.1) && ((p.2 == q.2) && true)) = _
  obtain ⟨a, b⟩ := p
  obtain ⟨c, d⟩ := q
  rw [Bool.and_true]
  by_cases h1 : a = c <;> by_cases h2 : b = d <;> simp [h1, h2]
theorem btw_t {v : V} {lo hi : Int} (h : btw v lo hi = true) : ∃ i, v = .int i ∧ lo ≤ i ∧ i ≤ hi := by
  cases v with
  | int i =>
    simp only [btw, Bool.and_eq_true, decide_eq_true_iff] at h
    exact ⟨i, rfl, h⟩
  | _ => exact nb h
theorem btw_f {v : V} {lo hi i : Int} (h : btw v lo hi = false) (e : v = .int i) : ¬ (lo ≤ i ∧ i ≤ hi) := fun c => by
  subst e
  simp only [btw, decide_eq_true c.1, decide_eq_true c.2] at h
  exact nb h
theorem sh_low {p q : Int} (h1 : 1 ≤ q ∧ q ≤ 9999) (h2 : 0 ≤ p ∧ p ≤ q) : shOk (some (p, q)) = decide (((frT p q, frB p q) : Q2) = (p, q)) := by
  obtain ⟨e1, e2⟩ := fr_low (t := p) (b := q) (by omega)
  rw [e1, e2]
  refine decide_eq_decide.mpr ⟨fun h => ?_, fun h => ⟨h1.1, h1.2, h2.1, h2.2, ?_⟩⟩
  · obtain ⟨a, b⟩ := gcd1_low h.2.2.2.2
    rw [a, b]
  · have hb : lowB p q = q := congrArg Prod.snd h
    have m := lowB_mul p q
    rw [hb] at m
    have : (Int.gcd p q : Int) = 1 := Int.eq_of_mul_eq_mul_left (show q ≠ 0 by omega) (by rw [m, Int.mul_one])
    omega
def sp_is_share (K : PySem.W.Frag) (ns : List Int) : Sp := fun vs H Q _ => match vs with
  | [v] => ∃ o, ShAt H v o ∧ ∀ H', Same H H' → Q (.bl (shOk o)) H'
  | _ => False
theorem sc_is_share : FnScope ["thing"] ["thing"] (defScope s_is_share) := ⟨rfl, rfl, rfl, by decide +kernel, rfl, by decide +kernel, by decide +kernel⟩
theorem ok_is_share (d : Dfn K mg "is_share" s_is_share ["thing"]) (er : Errs K mg c_Ledger c_NoTable c_Rule)  (v_MOST_PART : Cst mg "MOST_PART" (.int (9999))) (c_fraction : Cal P w K mg base "fraction" ["top", "bottom"] 2 (sp_fraction K ns)) (c_is_between : Cal P w K mg base "is_between" ["thing", "least", "most"] 2 (sp_is_between K ns)) (c_is_pair : Cal P w K mg base "is_pair" ["thing"] 1 (sp_is_pair K ns)) : Cal P w K mg base "is_share" ["thing"] 3 (sp_is_share K ns) := by
  refine d.cal (k := 2) sc_is_share (fun vs H Q E h => ?_) (fun f cdv A outer s H vs Q E hr h => ?_)
  · match vs, h with
    | [v], _ => rfl
  · match vs, h with
    | [v], ⟨o, hv, k⟩ =>
      refine ⟨_, (@pss_cons _ _ _ _ _ (@s_if _ _ _ _ _ _ _ _ (@L2.PW.pt _ _ _ (@w_or _ _ _ _ _ _ _ (@pt_not _ _ _ _ (@t_val _ _ _ (@e_call _ _ _ _ _ _ _ _ _ _ _ c_is_pair hr (by decide) (by rfl) (@pa_cons _ _ _ _ _ (dv 0) pa_nil (by rfl)) (by decide) (by rfl) (by rfl)) (by intro _; rfl))) (@w_or _ _ _ _ _ _ _ (@pt_not _ _ _ _ (@t_val _ _ _ (@e_call _ _ _ _ _ _ _ _ _ _ _ c_is_between hr (by decide) (by rfl) (@pa_cons _ _ _ _ _ (@pe_ix _ _ _ _ _ _ _ i_tup (dv 0) pe_int (fun _ _ => rfl)) (@pa_cons _ _ _ _ _ pe_int (@pa_cons _ _ _ _ _ (g_cst v_MOST_PART (by rfl)) pa_nil (by rfl)) (by rfl)) (by rfl)) (by decide) (by rfl) (by rfl)) (by intro _; rfl))) (@pw_or1 _ _ _ _ (@pt_not _ _ _ _ (@t_val _ _ _ (@e_call _ _ _ _ _ _ _ _ _ _ _ c_is_between hr (by decide) (by rfl) (@pa_cons _ _ _ _ _ (@pe_ix _ _ _ _ _ _ _ i_tup (dv 0) pe_int (fun _ _ => rfl)) (@pa_cons _ _ _ _ _ pe_int (@pa_cons _ _ _ _ _ (@pe_ix _ _ _ _ _ _ _ i_tup (dv 0) pe_int (fun _ _ => rfl)) pa_nil (by rfl)) (by rfl)) (by rfl)) (by decide) (by rfl) (by rfl)) (by intro _; rfl))))))) (@pss_one _ _ _ (@ps_ret _ _ _ _ pe_bl)) pss_nil) (@pss_one _ _ _ (@ps_ret _ _ _ _ (@pe_cmpR _ _ _ _ _ _ _ _ (@o_eqD _ hr.units) (@e_call _ _ _ _ _ _ _ _ _ _ _ c_fraction hr (by decide) (by rfl) (@pa_cons _ _ _ _ _ (@pe_ix _ _ _ _ _ _ _ i_tup (dv 0) pe_int (fun _ _ => rfl)) (@pa_cons _ _ _ _ _ (@pe_ix _ _ _ _ _ _ _ i_tup (dv 0) pe_int (fun _ _ => rfl)) pa_nil (by rfl)) (by rfl)) (by decide) (by rfl) (by rfl)) (dv 0) (@nomark _ _ (by decide) (by decide)))))), ?_⟩
      rcases hv with ⟨t, a, b, rfl, e, ka, kb, rfl⟩ | ⟨h, rfl⟩
      case' inr => exact ⟨false, h, ⟨fun _ => ⟨fun _ => k _ (Same.refl _), fun h => nb h⟩, fun h => nb h⟩⟩
      refine ⟨true, .inl ⟨t, _, rfl, e, (show 2 ≤ 100 by decide), rfl⟩, ⟨fun h => nb h, fun _ => ⟨_, e, kb, ⟨fun h => ⟨fun _ => ?_, fun h => nb h⟩, fun h => ?_⟩⟩⟩⟩
      · have h : btw b 1 9999 = false := by simpa using h
        have e : shOk (two a b) = false := by
          unfold two
          split
          · have := btw_f h rfl
            exact decide_eq_false fun c => this ⟨c.1, c.2.1⟩
          · rfl
        rw [e] at k
        exact k _ (Same.refl _)
      have h : btw b 1 9999 = true := by simpa using h
      obtain ⟨q, rfl, q1, q2⟩ := btw_t h
      refine ⟨_, e, _, e, ka, ⟨fun h => ?_, fun h => ?_⟩⟩
      · have h : btw a 0 q = false := by simpa using h
        have e : shOk (two a (.int q)) = false := by
          cases a with
          | int p =>
            have := btw_f h rfl
            exact decide_eq_false fun c => this ⟨c.2.2.1, c.2.2.2.1⟩
          | _ => rfl
        rw [e] at k
        exact k _ (Same.refl _)
      have h' : btw a 0 q = true := by simpa using h
      clear h
      obtain ⟨p, ea, p1, p2⟩ := btw_t h'
      subst ea
      refine ⟨_, e, _, e, ⟨by omega, bd_of (b := 9999) (by omega) (by omega) (bd_lit rfl)⟩, fun r H' s' f => ⟨qd (frT p q, frB p q), qd (p, q), .tup (SqT.of f.at') (.cons (.int _) (.cons (.int _) .nil)), .tup (SqT.of (s' _ _ e)) (.cons (.int _) (.cons (.int _) .nil)), rfl, rfl, ?_⟩⟩
      have k := k H' s'
      rw [show two (.int p) (.int q) = some (p, q) from rfl, sh_low ⟨q1, q2⟩ ⟨p1, p2⟩] at k
      rw [eqv_qd]
      exact k
def thr (a : V) (o : Option (Int × Int)) : Option (Int × Int × Int) := match a, o with
  | .int s, some (p, q) => some (s, p, q)
  | _, _ => none
def RwAt (H : Hp) (v : V) (o : Option (Int × Int × Int)) : Prop := (∃ t a b so, v = .ref t ∧ H t = some (.tup [a, b]) ∧ Kd H a ∧ ShAt H b so ∧ o = thr a so) ∨ (PrAt H v false ∧ o = none)
theorem RwAt.up {H H' : Hp} {v : V} {o : Option (Int × Int × Int)} (s : Same H H') (h : RwAt H v o) : RwAt H' v o := by
  rcases h with ⟨t, a, b, so, e, h1, h2, h3, h4⟩ | ⟨a, e⟩
  · exact .inl ⟨t, a, b, so, e, s _ _ h1, h2.up s, h3.up s, h4⟩
  · exact .inr ⟨a.up s, e⟩
def rowOk : Option (Int × Int × Int) → Bool
  | some (s, p, q) => decide (0 ≤ s ∧ s ≤ 1000000) && shOk (some (p, q))
  | none => false
def sp_is_row (K : PySem.W.Frag) (ns : List Int) : Sp := fun vs H Q _ => match vs with
  | [v] => ∃ o, RwAt H v o ∧ ∀ H', Same H H' → Q (.bl (rowOk o)) H'
  | _ => False
theorem sc_is_row : FnScope ["thing"] ["thing"] (defScope s_is_row) := ⟨rfl, rfl, rfl, by decide +kernel, rfl, by decide +kernel, by decide +kernel⟩
theorem ok_is_row (d : Dfn K mg "is_row" s_is_row ["thing"]) (er : Errs K mg c_Ledger c_NoTable c_Rule)  (v_LAST_FROM : Cst mg "LAST_FROM" (.int (1000000))) (c_is_share : Cal P w K mg base "is_share" ["thing"] 3 (sp_is_share K ns)) (c_is_between : Cal P w K mg base "is_between" ["thing", "least", "most"] 2 (sp_is_between K ns)) (c_is_pair : Cal P w K mg base "is_pair" ["thing"] 1 (sp_is_pair K ns)) : Cal P w K mg base "is_row" ["thing"] 4 (sp_is_row K ns) := by
  refine d.cal (k := 3) sc_is_row (fun vs H Q E h => ?_) (fun f cdv A outer s H vs Q E hr h => ?_)
  · match vs, h with
    | [v], _ => rfl
  · match vs, h with
    | [v], ⟨o, hv, k⟩ =>
      refine ⟨_, (@pss_one _ _ _ (@ps_ret _ _ _ _ (@e_and _ _ _ _ _ _ _ (@e_call _ _ _ _ _ _ _ _ _ _ _ c_is_pair hr (by decide) (by rfl) (@pa_cons _ _ _ _ _ (dv 0) pa_nil (by rfl)) (by decide) (by rfl) (by rfl)) (@e_and _ _ _ _ _ _ _ (@e_call _ _ _ _ _ _ _ _ _ _ _ c_is_between hr (by decide) (by rfl) (@pa_cons _ _ _ _ _ (@pe_ix _ _ _ _ _ _ _ i_tup (dv 0) pe_int (fun _ _ => rfl)) (@pa_cons _ _ _ _ _ pe_int (@pa_cons _ _ _ _ _ (g_cst v_LAST_FROM (by rfl)) pa_nil (by rfl)) (by rfl)) (by rfl)) (by decide) (by rfl) (by rfl)) (@pe_one _ _ _ _ _ (@e_call _ _ _ _ _ _ _ _ _ _ _ c_is_share hr (by decide) (by rfl) (@pa_cons _ _ _ _ _ (@pe_ix _ _ _ _ _ _ _ i_tup (dv 0) pe_int (fun _ _ => rfl)) pa_nil (by rfl)) (by decide) (by rfl) (by rfl))))))), ?_⟩
      rcases hv with ⟨t, a, b, so, rfl, e, ka, sb, rfl⟩ | ⟨h, rfl⟩
      case' inr => exact ⟨false, h, ⟨fun h => nb h, fun _ => k _ (Same.refl _)⟩⟩
      refine ⟨true, .inl ⟨t, _, rfl, e, (show 2 ≤ 100 by decide), rfl⟩, ⟨fun _ => ⟨_, e, ka, ⟨fun h => ?_, fun h => ?_⟩⟩, fun h => nb h⟩⟩
      rotate_left
      · have h : btw a 0 1000000 = false := h
        have e : rowOk (thr a so) = false := by
          unfold thr
          split
          · have := btw_f h rfl
            show (decide _ && _) = false
            rw [decide_eq_false this]
            rfl
          · rfl
        rw [e] at k
        exact k _ (Same.refl _)
      have h : btw a 0 1000000 = true := h
      obtain ⟨s', rfl, q1, q2⟩ := btw_t h
      refine ⟨_, e, so, sb, fun H' s1 => ?_⟩
      have k := k H' s1
      have e : rowOk (thr (.int s') so) = shOk so := by
        unfold thr
        cases so with
        | none => rfl
        | some pq =>
          obtain ⟨p, q⟩ := pq
          show (decide (0 ≤ s' ∧ s' ≤ 1000000) && shOk (some (p, q))) = _
          rw [decide_eq_true ⟨q1, q2⟩, Bool.true_and]
      rw [e] at k
      exact k
def RoAt (H : Hp) (v : V) (r : Int × Int × Int) : Prop := ∃ t u, v = .ref t ∧ H t = some (.tup [.int r.1, .ref u]) ∧ H u = some (.tup [.int r.2.1, .int r.2.2])
theorem ro_up (v : V) (r : Int × Int × Int) (H H' : Hp) (k : Kt H H') (h : RoAt H v r) : RoAt H' v r := by
  obtain ⟨t, u, e, h1, h2⟩ := h
  exact ⟨t, u, e, k _ _ h1, k _ _ h2⟩
theorem RwAt.ro {H : Hp} {v : V} {r : Int × Int × Int} (h : RwAt H v (some r)) : RoAt H v r := by
  rcases h with ⟨t, a, b, so, e, h1, h2, h3, h4⟩ | ⟨_, e⟩
  · unfold thr at h4
    split at h4
    · rename_i s p q
      cases h4
      rcases h3 with ⟨u, x, y, e', g1, _, _, g4⟩ | ⟨_, e'⟩
      · unfold two at g4
        split at g4
        · cases g4
          subst e'
          exact ⟨t, u, e, h1, g1⟩
        · cases g4
      · cases e'
    · cases h4
  · cases e
theorem RoAt.rw {H : Hp} {v : V} {r : Int × Int × Int} (h : RoAt H v r) : RwAt H v (some r) := by
  obtain ⟨t, u, e, h1, h2⟩ := h
  exact .inl ⟨t, _, _, some (r.2.1, r.2.2), e, h1, trivial, .inl ⟨u, _, _, rfl, h2, trivial, trivial, rfl⟩, rfl⟩
def goR (a b : Int × Int × Int) : Bool := decide (a.1 < b.1) && decide (¬ b.2.1 * a.2.2 < a.2.1 * b.2.2)
def sp_under (K : PySem.W.Frag) (ns : List Int) : Sp := fun vs H Q _ => match vs with
  | [.ref a, .ref b] => ∃ p q p' q' : Int, (H a = some (.tup [.int p, .int q]) ∧ H b = some (.tup [.int p', .int q'])) ∧ (Bd 1900 p ∧ Bd 1900 q ∧ Bd 1900 p' ∧ Bd 1900 q') ∧ Q (.bl (decide (p * q' < p' * q))) H
  | _ => False
theorem sc_under : FnScope ["one", "other"] ["one", "other"] (defScope s_under) := ⟨rfl, rfl, rfl, by decide +kernel, rfl, by decide +kernel, by decide +kernel⟩
theorem ok_under (d : Dfn K mg "under" s_under ["one", "other"]) (er : Errs K mg c_Ledger c_NoTable c_Rule)    : Cal P w K mg base "under" ["one", "other"] 1 (sp_under K ns) := by
  refine d.cal (k := 0) sc_under (fun vs H Q E h => ?_) (fun f cdv A outer s H vs Q E hr h => ?_)
  · match vs, h with
    | [.ref a, .ref b], _ => rfl
  · match vs, h with
    | [.ref a, .ref b], ⟨p, q, p', q', ⟨ha, hb⟩, ⟨b1, b2, b3, b4⟩, k⟩ =>
      refine ⟨_, (@pss_one _ _ _ (@ps_ret _ _ _ _ (@pe_cmpR _ _ _ _ _ _ _ _ o_lt (@pe_op _ _ _ _ _ _ _ _ o_mul (@pe_ix _ _ _ _ _ _ _ i_tup (dv 0) pe_int (fun _ _ => rfl)) (@pe_ix _ _ _ _ _ _ _ i_tup (dv 1) pe_int (fun _ _ => rfl))) (@pe_op _ _ _ _ _ _ _ _ o_mul (@pe_ix _ _ _ _ _ _ _ i_tup (dv 1) pe_int (fun _ _ => rfl)) (@pe_ix _ _ _ _ _ _ _ i_tup (dv 0) pe_int (fun _ _ => rfl))) (@nomark _ _ (by decide) (by decide))))), ?_⟩
      exact ⟨_, ha, _, hb, cok b1 b4 (by decide) (by decide), _, hb, _, ha, cok b3 b2 (by decide) (by decide), k⟩
def sp_goes_on (K : PySem.W.Frag) (ns : List Int) : Sp := fun vs H Q _ => match vs with
  | [v, u] => ∃ a b, (RoAt H v a ∧ RoAt H u b) ∧ (Bd 20 a.2.1 ∧ Bd 20 a.2.2 ∧ Bd 20 b.2.1 ∧ Bd 20 b.2.2) ∧ Q (.bl (goR a b)) H
  | _ => False
theorem sc_goes_on : FnScope ["row", "later"] ["row", "later"] (defScope s_goes_on) := ⟨rfl, rfl, rfl, by decide +kernel, rfl, by decide +kernel, by decide +kernel⟩
theorem ok_goes_on (d : Dfn K mg "goes_on" s_goes_on ["row", "later"]) (er : Errs K mg c_Ledger c_NoTable c_Rule)   (c_under : Cal P w K mg base "under" ["one", "other"] 1 (sp_under K ns)) : Cal P w K mg base "goes_on" ["row", "later"] 2 (sp_goes_on K ns) := by
  refine d.cal (k := 1) sc_goes_on (fun vs H Q E h => ?_) (fun f cdv A outer s H vs Q E hr h => ?_)
  · match vs, h with
    | [v, u], _ => rfl
  · match vs, h with
    | [v, u], ⟨a, b, ⟨⟨t, x, ev, h1, h2⟩, ⟨t', x', eu, h1', h2'⟩⟩, ⟨b1, b2, b3, b4⟩, k⟩ =>
      refine ⟨_, (@pss_one _ _ _ (@ps_ret _ _ _ _ (@e_and _ _ _ _ _ _ _ (@pe_cmpR _ _ _ _ _ _ _ _ o_lt (@pe_ix _ _ _ _ _ _ _ i_tup (dv 0) pe_int (fun _ _ => rfl)) (@pe_ix _ _ _ _ _ _ _ i_tup (dv 1) pe_int (fun _ _ => rfl)) (@nomark _ _ (by decide) (by decide))) (@pe_one _ _ _ _ _ (@e_not _ _ _ _ (@e_call _ _ _ _ _ _ _ _ _ _ _ c_under hr (by decide) (by rfl) (@pa_cons _ _ _ _ _ (@pe_ix _ _ _ _ _ _ _ i_tup (dv 1) pe_int (fun _ _ => rfl)) (@pa_cons _ _ _ _ _ (@pe_ix _ _ _ _ _ _ _ i_tup (dv 0) pe_int (fun _ _ => rfl)) pa_nil (by rfl)) (by rfl)) (by decide) (by rfl) (by rfl))))))), ?_⟩
      subst ev
      subst eu
      refine ⟨_, h1, _, h1', ⟨fun h => ⟨_, h1', _, h1, _, _, _, _, ⟨h2', h2⟩, ⟨b3.mono (by decide), b4.mono (by decide), b1.mono (by decide), b2.mono (by decide)⟩, ?_⟩, fun h => ?_⟩⟩
      · have h : decide (a.1 < b.1) = true := h
        have e : goR a b = !decide (b.2.1 * a.2.2 < a.2.1 * b.2.2) := by
          unfold goR
          rw [h, Bool.true_and, decide_not]
        rw [e] at k
        exact k
      · have h : decide (a.1 < b.1) = false := h
        have e : goR a b = false := by
          unfold goR
          rw [h, Bool.false_and]
        rw [e] at k
        exact k
def chn : List (Int × Int × Int) → Bool
  | a :: b :: l => goR a b && chn (b :: l)
  | _ => true
def GoodT (rows : List (Int × Int × Int)) : Prop := (1 ≤ rows.length ∧ rows.length ≤ 10) ∧ (∀ r ∈ rows, rowOk (some r) = true) ∧ rows[0]? = some (0, 1, 2) ∧ chn rows = true
def BadT (os : List (Option (Int × Int × Int))) : Prop := ¬ ∃ rows, os = rows.map some ∧ GoodT rows
def rd3 (r : Int × Int × Int) : PyData := .tuple [.int r.1, .tuple [.int r.2.1, .int r.2.2]]
theorem rp_ro {K : PySem.W.Frag} {H : Hp} {v : V} {r : Int × Int × Int} (h : RoAt H v r) : Rp K H v (rd3 r) := by
  obtain ⟨t, u, e, h1, h2⟩ := h
  subst e
  exact .tup (SqT.of h1) (.cons (.int _) (.cons (.tup (SqT.of h2) (.cons (.int _) (.cons (.int _) .nil))) .nil))
theorem eqv_rd3 (p q : Int × Int × Int) : PyData.eqv (rd3 p) (rd3 q) = decide (p = q) := by
  show ((p.1 == q.1) && (((p.2.1 == q.2.1) && ((p.2.2 == q.2.2) && true)) && true)) = _
  obtain ⟨a, b, c⟩ := p
  obtain ⟨a', b', c'⟩ := q
  by_cases h1 : a = a' <;> by_cases h2 : b = b' <;> by_cases h3 : c = c' <;> simp [h1, h2, h3]
def NL (H : Hp) : V → Prop
  | .int _ => True
  | .bl _ => True
  | .non => True
  | .str _ => True
  | .ref p => ∃ u t, H p = some u ∧ tyHO u = some t ∧ tyB t "list" = some false
  | _ => False
def TbAt (H : Hp) (v : V) (os : Option (List (Option (Int × Int × Int)))) : Prop := (∃ l vs os', v = .ref l ∧ H l = some (.lst vs) ∧ vs.length ≤ 100 ∧ All2 (RwAt H) vs os' ∧ os = some os') ∨ (NL H v ∧ os = none)
theorem comp_zipR {β : Type} {K : PySem.W.Frag} {a b : Addr} {xs ys : List V} {ms : List β} {g : TG} {te : TE} {k : Nat} {js : List Nat} {σ : L2.St} {H1 : Hp} {Q : VK} (M : Hp → V → V → β → Prop) (upM : ∀ v u m H H', Kt H H' → M H v u m → M H' v u m) (R : Hp → β → V → Prop) (up : ∀ m y H H', Kt H H' → R H m y → R H' m y)
    (hz : ms.length ≤ 1000) (hx : SqL K H1 a xs) (hy : SqL K H1 b ys) (lx : ms.length ≤ xs.length) (ly : ys.length = ms.length) (hm : ∀ (i : Nat) x y m, xs[i]? = some x → ys[i]? = some y → ms[i]? = some m → M H1 x y m)
    (hs : ∀ x y m t H2, M H2 x y m → m ∈ ms → Same H1 H2 → H2 t = some (.tup [x, y]) → ∀ P : VK, (∀ y H3, Same H2 H3 → R H3 m y → P y H3) → g (.ref t) (List.replicate k none ++ capσ js σ) H2 fun σ2 H3 => σ2.drop k = capσ js σ ∧ te σ2 H3 P)
    (hq : ∀ D H' zs, Same H1 H' → H1 D = none → H' D = some (.lst zs) → All2 (R H') ms zs → Q (.ref D) H') : CGoal (Itz true true K a b) g te k js σ H1 Q := by
  unfold CGoal
  intro D hD
  refine ⟨fun i m H => m = ms.length - i ∧ i ≤ ms.length ∧ Same H1 H ∧ ∃ zs, H D = some (.lst zs) ∧ All2 (R H) (ms.take i) zs, ⟨ms.length, by simp, Nat.zero_le _, same_upd hD, [], upd_same, .nil⟩, ?_⟩
  rintro i m H ⟨rfl, hi, sm, zs, hH, ar⟩
  have sq1 : SqK true K H a xs := sm.seq hx
  have sq2 : SqK true K H b ys := sm.seq hy
  by_cases hlt : i < ms.length
  · have e1 : xs[i]? = some (xs[i]'(by omega)) := List.getElem?_eq_getElem _
    have e2 : ys[i]? = some (ys[i]'(by omega)) := List.getElem?_eq_getElem _
    have e3 : ms[i]? = some ms[i] := List.getElem?_eq_getElem _
    refine .inr ⟨⟨xs, ys, _, _, sq1, sq2, e1, e2⟩, fun v H' yl => ?_⟩
    obtain ⟨t, x, y, rfl, ht, rfl, y1, y2⟩ := yl
    have st : Same H (upd H t (.tup [x, y])) := same_upd ht
    have et : upd H t (.tup [x, y]) t = some (.tup [x, y]) := upd_same
    generalize upd H t (.tup [x, y]) = H2 at st et
    have hH := st _ _ hH
    have s2 := sm.trans st
    have hM := hm i x y _ (y1 xs sq1) (y2 ys sq2) e3
    refine hs x y _ t H2 (upM _ _ _ _ _ (kt_of s2) hM) (List.mem_of_getElem? e3) s2 et _ fun u H3 s3 r3 => ⟨zs, s3 _ _ hH, ?_, ms.length - (i + 1), by omega, rfl, hlt, same_app' (s2.trans s3) hD, zs ++ [u], upd_same, ?_⟩
    · rw [← ar.len, List.length_take]
      exact Nat.lt_of_le_of_lt (Nat.min_le_left _ _) (Nat.lt_of_lt_of_le hlt (Nat.le_trans hz (by decide)))
    · have kt : Kt H3 (upd H3 D (.lst (zs ++ [u]))) := kt_upd (s3 _ _ hH)
      rw [List.take_add_one, e3]
      exact (ar.imp fun v y r => up v y _ _ ((kt_of (st.trans s3)).trans kt) r).snoc (up _ _ _ _ kt r3)
  · have e : i = ms.length := by omega
    subst e
    rw [List.take_length] at ar
    exact .inl ⟨⟨xs, ys, sq1, sq2, .inr (by omega)⟩, hq D _ zs sm hD hH ar⟩
theorem a2_bl {α : Type} {f : α → Bool} : ∀ {l : List α} {ys : List V}, All2 (fun o y => y = V.bl (f o)) l ys → ys = (l.map f).map V.bl
  | _, _, .nil => rfl
  | _, _, .cons h t => by rw [h, a2_bl t]; rfl
theorem all_some : ∀ {os : List (Option (Int × Int × Int))}, (os.map rowOk).all id = true → ∃ rows : List (Int × Int × Int), os = rows.map some ∧ ∀ r ∈ rows, rowOk (some r) = true
  | [], _ => ⟨[], rfl, fun r h => absurd h (by simp)⟩
  | o :: os, h => by
    rw [List.map_cons, List.all_cons, Bool.and_eq_true] at h
    obtain ⟨rows, e, hr⟩ := all_some h.2
    cases o with
    | none => exact nb h.1
    | some r =>
      refine ⟨r :: rows, by rw [e]; rfl, fun x hx => ?_⟩
      rcases List.mem_cons.mp hx with rfl | hx
      · exact h.1
      · exact hr x hx
theorem all_ok {rows : List (Int × Int × Int)} (h : ∀ r ∈ rows, rowOk (some r) = true) : ((rows.map some).map rowOk).all id = true := by
  rw [List.all_eq_true]
  intro b hb
  obtain ⟨o, ho, rfl⟩ := List.mem_map.mp hb
  obtain ⟨r, hr, rfl⟩ := List.mem_map.mp ho
  exact h r hr
theorem map_some_inj {α : Type} : ∀ {l m : List α}, l.map some = m.map some → l = m
  | [], [], _ => rfl
  | [], _ :: _, h => by simp at h
  | _ :: _, [], h => by simp at h
  | a :: l, b :: m, h => by
    rw [List.map_cons, List.map_cons] at h
    injection h with h1 h2
    cases h1
    rw [map_some_inj h2]
theorem a2_ro {H : Hp} : ∀ {vs : List V} {rows : List (Int × Int × Int)}, All2 (RwAt H) vs (rows.map some) → All2 (RoAt H) vs rows
  | [], [], _ => .nil
  | _ :: _, [], h => by cases h
  | [], _ :: _, h => by cases h
  | v :: vs, r :: rows, .cons h t => .cons h.ro (a2_ro t)
theorem a2_rw {H : Hp} : ∀ {vs : List V} {rows : List (Int × Int × Int)}, All2 (RoAt H) vs rows → All2 (RwAt H) vs (rows.map some)
  | _, _, .nil => .nil
  | _, _, .cons h t => .cons h.rw (a2_rw t)
theorem chn_zip : ∀ (rows : List (Int × Int × Int)), chn rows = ((rows.zip (rows.drop 1)).map fun m => goR m.1 m.2).all id
  | [] => rfl
  | [_] => rfl
  | a :: b :: l => by
    show (goR a b && chn (b :: l)) = _
    rw [chn_zip (b :: l)]
    rfl
theorem cut_drop {xs : List V} {j : Nat} (h : j ≤ xs.length) : cutV xs (some (j : Int)) none = xs.drop j := by
  unfold cutV
  rw [HT.sIx_none, HT.sIx_nat, Nat.min_eq_left h]
  apply List.take_of_length_le
  rw [List.length_drop]
  exact Nat.le_refl _
theorem row_bd {r : Int × Int × Int} (h : rowOk (some r) = true) : (0 ≤ r.1 ∧ r.1 ≤ 1000000) ∧ (1 ≤ r.2.2 ∧ r.2.2 ≤ 9999 ∧ 0 ≤ r.2.1 ∧ r.2.1 ≤ r.2.2 ∧ Int.gcd r.2.1 r.2.2 = 1) := by
  obtain ⟨s, p, q⟩ := r
  have h : (decide (0 ≤ s ∧ s ≤ 1000000) && shOk (some (p, q))) = true := h
  rw [Bool.and_eq_true] at h
  exact ⟨of_decide_eq_true h.1, of_decide_eq_true h.2⟩
def sp_table_of (K : PySem.W.Frag) (ns : List Int) : Sp := fun vs H Q E => match vs with
  | [v] => ∃ os, TbAt H v os ∧ ((∀ os', os = some os' → BadT os') → ∀ H', Same H H' → ExN K "NoTable" E H') ∧ (∀ rows vs l, v = .ref l → H l = some (.lst vs) → os = some (rows.map some) → GoodT rows → ∀ D H', Same H H' → H D = none → H' D = some (.lst vs) → Q (.ref D) H')
  | _ => False
theorem sc_table_of : FnScope ["rows"] ["rows"] (defScope s_table_of) := ⟨rfl, rfl, rfl, by decide +kernel, rfl, by decide +kernel, by decide +kernel⟩
theorem ok_table_of (d : Dfn K mg "table_of" s_table_of ["rows"]) (er : Errs K mg c_Ledger c_NoTable c_Rule) (n_list : mg "list" = none) (n_all : mg "all" = none) (n_zip : mg "zip" = none) (n_len : mg "len" = none) (n_isinstance : mg "isinstance" = none) (v_FIRST_ROW : Cst mg "FIRST_ROW" (.ref a_FIRST_ROW)) (w_FIRST_ROW : TupD K a_FIRST_ROW [.int (0), .ref b_FIRST_ROW_1]) (w_FIRST_ROW_1 : TupD K b_FIRST_ROW_1 [.int (1), .int (2)]) (v_MOST_ROWS : Cst mg "MOST_ROWS" (.int (10))) (c_goes_on : Cal P w K mg base "goes_on" ["row", "later"] 2 (sp_goes_on K ns)) (c_is_row : Cal P w K mg base "is_row" ["thing"] 4 (sp_is_row K ns)) : Cal P w K mg base "table_of" ["rows"] 5 (sp_table_of K ns) := by
  refine d.calX (k := 4) sc_table_of (fun vs H Q E h => ?_) (fun f cdv A outer s H vs Q E hr h => ?_)
  · match vs, h with
    | [v], _ => rfl
  · match vs, h with
    | [v], ⟨os, hv, ex, k⟩ =>
      refine ⟨_, (@pss_cons _ _ _ _ _ (@s_if _ _ _ _ _ _ _ _ (@L2.PW.pt _ _ _ (@w_or _ _ _ _ _ _ _ (@pt_not _ _ _ _ (@t_val _ _ _ (@pe_callB _ _ _ _ _ _ _ _ _ c_isi (by rfl) n_isinstance (by decide +kernel) (@pa_cons _ _ _ _ _ (dv 0) (@pa_cons _ _ _ _ _ (e_ty "list" (by rfl) n_list (by decide +kernel)) pa_nil (by rfl)) (by rfl)) (by decide) (by decide) (by rfl) (by rfl)) (by intro _; rfl))) (@pw_or1 _ _ _ _ (@pt_not _ _ _ _ (@t_chain _ _ _ _ _ _ _ _ _ _ _ _ o_le o_le pe_int (@pe_callB _ _ _ _ _ _ _ _ _ c_len (by rfl) n_len (by decide +kernel) (@pa_cons _ _ _ _ _ (dv 0) pa_nil (by rfl)) (by decide) (by decide) (by rfl) (by rfl)) (g_cst v_MOST_ROWS (by rfl)) (by with_unfolding_all rfl)))))) (@pss_one _ _ _ (@ps_raise _ _ _ _ _ _ _ _ _ _ _ _ _ _ _ _ _ _ _ _ _ _ _ er.b_NoTable er.x_NoTable (by rfl) (by decide))) pss_nil) (@pss_cons _ _ _ _ _ (@s_if _ _ _ _ _ _ _ _ (@pt_not _ _ _ _ (@t_val _ _ _ (@pe_callB _ _ _ _ _ _ _ _ _ (@c_all _ rfl) (by rfl) n_all (by decide +kernel) (@pa_cons _ _ _ _ _ (@e_compN _ _ _ _ _ _ _ _ _ _ ["row"] [] [] rfl (@pi_list _ _ _ _ (dv 0)) (fun C s H fp => (@pg_name _ _ (0) _ (show List.Nodup [("row" : Str)] by decide +kernel) rfl (by first | exact Or.inl rfl | exact Or.inr rfl) (by first | exact .inl rfl | exact .inr rfl | assumption))) (fun C s H fp => (@e_call _ _ _ _ _ _ _ _ _ _ _ c_is_row hr (by decide) (by rfl) (@pa_cons _ _ _ _ _ (dv 0) pa_nil (by rfl)) (by decide) (by rfl) (by rfl))) rfl rfl (by decide +kernel) (by decide +kernel) (by rfl) True.intro True.intro (by intro _; rfl)) pa_nil (by rfl)) (by decide) (by decide) (by rfl) (by rfl)) (by intro _; rfl))) (@pss_one _ _ _ (@ps_raise _ _ _ _ _ _ _ _ _ _ _ _ _ _ _ _ _ _ _ _ _ _ _ er.b_NoTable er.x_NoTable (by rfl) (by decide))) pss_nil) (@pss_cons _ _ _ _ _ (@s_if _ _ _ _ _ _ _ _ (@t_cmp _ _ _ _ _ _ _ _ (@o_neD _ hr.units) (@pe_ix _ _ _ _ _ _ _ i_lst (dv 0) pe_int (fun _ _ => rfl)) (g_cst v_FIRST_ROW (by rfl)) (@nomark _ _ (by decide) (by decide))) (@pss_one _ _ _ (@ps_raise _ _ _ _ _ _ _ _ _ _ _ _ _ _ _ _ _ _ _ _ _ _ _ er.b_NoTable er.x_NoTable (by rfl) (by decide))) pss_nil) (@pss_cons _ _ _ _ _ (@s_if _ _ _ _ _ _ _ _ (@pt_not _ _ _ _ (@t_val _ _ _ (@pe_callB _ _ _ _ _ _ _ _ _ (@c_all _ rfl) (by rfl) n_all (by decide +kernel) (@pa_cons _ _ _ _ _ (@e_compN _ _ _ _ _ _ _ _ _ _ ["row", "later"] [] [] rfl (@pi_zip _ true true _ _ _ _ _ _ _ _ (by rfl) n_zip (@pa_cons _ _ _ _ _ (dv 0) (@pa_cons _ _ _ _ _ (@pe_slice _ _ _ _ _ _ _ _ _ _ sl_lst (dv 0) (po_some pe_int) po_none) pa_nil (by rfl)) (by rfl)) (by rfl) (by rfl)) (fun C s H fp => (show PG _ _ (gTup K 2 _) from pg_tup rfl (pgs_cons (pg_name (i := 0) (show List.Nodup [("row" : Str), ("later" : Str)] by decide +kernel) rfl (by first | exact Or.inl rfl | exact Or.inr rfl)) (pgs_cons (pg_name (i := 1) (show List.Nodup [("row" : Str), ("later" : Str)] by decide +kernel) rfl (by first | exact Or.inl rfl | exact Or.inr rfl)) pgs_nil)))) (fun C s H fp => (@e_call _ _ _ _ _ _ _ _ _ _ _ c_goes_on hr (by decide) (by rfl) (@pa_cons _ _ _ _ _ (dv 0) (@pa_cons _ _ _ _ _ (dv 1) pa_nil (by rfl)) (by rfl)) (by decide) (by rfl) (by rfl))) rfl rfl (by decide +kernel) (by decide +kernel) (by rfl) True.intro True.intro (by intro _; rfl)) pa_nil (by rfl)) (by decide) (by decide) (by rfl) (by rfl)) (by intro _; rfl))) (@pss_one _ _ _ (@ps_raise _ _ _ _ _ _ _ _ _ _ _ _ _ _ _ _ _ _ _ _ _ _ _ er.b_NoTable er.x_NoTable (by rfl) (by decide))) pss_nil) (@pss_one _ _ _ (@ps_ret _ _ _ _ (@pe_callTy _ _ _ _ _ _ _ _ _ c_listN (by rfl) n_list (by decide +kernel) (@pa_cons _ _ _ _ _ (dv 0) pa_nil (by rfl)) (by decide) (by decide) (by rfl) (by rfl)))))))), ?_⟩
      rcases hv with ⟨l, vs', os', rfl, e, l100, al, rfl⟩ | ⟨nl, rfl⟩
      case' inr =>
        have ex := ex (fun os' h => by cases h)
        match v, nl with
        | .int _, _ => exact ⟨false, rfl, ⟨fun _ => ⟨fun _ => ex _ (Same.refl _) _ er.y_NoTable, fun h => nb h⟩, fun h => nb h⟩⟩
        | .bl _, _ => exact ⟨false, rfl, ⟨fun _ => ⟨fun _ => ex _ (Same.refl _) _ er.y_NoTable, fun h => nb h⟩, fun h => nb h⟩⟩
        | .non, _ => exact ⟨false, rfl, ⟨fun _ => ⟨fun _ => ex _ (Same.refl _) _ er.y_NoTable, fun h => nb h⟩, fun h => nb h⟩⟩
        | .str _, _ => exact ⟨false, rfl, ⟨fun _ => ⟨fun _ => ex _ (Same.refl _) _ er.y_NoTable, fun h => nb h⟩, fun h => nb h⟩⟩
        | .ref _, ⟨u, t, h1, h2, h3⟩ => exact ⟨u, false, t, h1, h2, h3, ⟨fun _ => ⟨fun _ => ex _ (Same.refl _) _ er.y_NoTable, fun h => nb h⟩, fun h => nb h⟩⟩
        | .flt _, h => exact h.elim
        | .byt _, h => exact h.elim
        | .ty _, h => exact h.elim
      have ex : BadT os' → ∀ H', Same H H' → ExN K "NoTable" E H' := fun h => ex fun _ z => by cases z; exact h
      have ll := al.len
      refine ⟨_, true, _, e, rfl, rfl, ⟨fun h => nb h, fun _ => ⟨_, .inl (SqL.of e), ?_⟩⟩⟩
      have goB : ¬ (1 ≤ vs'.length ∧ vs'.length ≤ 10) → ∀ H', Same H H' → ExN K "NoTable" E H' := fun c => ex fun ⟨rows, er, g⟩ => c (by
        have h1 := g.1
        have h2 : os'.length = rows.length := by rw [er, List.length_map]
        omega)
      refine ⟨fun h1 => ⟨fun h2 => ?_, fun h2 => ?_⟩, fun h1 => ⟨fun _ => ?_, fun h => nb h⟩⟩
      · have h2 : ¬ (vs'.length : Int) ≤ 10 := by simpa using h2
        exact goB (fun c => by omega) _ (Same.refl _) _ er.y_NoTable
      rotate_left
      · have h1 : ¬ (1 : Int) ≤ (vs'.length : Int) := of_decide_eq_false h1
        exact goB (fun c => by omega) _ (Same.refl _) _ er.y_NoTable
      have h1 : (1 : Int) ≤ (vs'.length : Int) := of_decide_eq_true h1
      have h2 : (vs'.length : Int) ≤ 10 := by simpa using h2
      clear goB
      refine ⟨l, rfl, ⟨_, SqL.of e⟩, comp_abs (fun _ v o => RwAt H v o) (fun _ _ _ _ _ h => h) (fun _ o y => y = V.bl (rowOk o)) (fun _ _ _ _ _ h => h) (by omega) (SqL.of e) al ?_ ?_⟩
      · intro v o H1 hM _ s1 P hP
        exact ⟨rfl, o, hM.up s1, fun H2 s2 => hP _ _ s2 rfl⟩
      intro D1 H1 ys s1 _ e1 a1
      have y1 := a2_bl a1
      refine ⟨os'.map rowOk, by rw [← y1]; exact SqL.of e1, ⟨fun h => ?_, fun h => ?_⟩⟩
      · have h : (os'.map rowOk).all id = false := by simpa using h
        refine ex (fun ⟨rows, er, g⟩ => ?_) _ s1 _ er.y_NoTable
        rw [er, all_ok g.2.1] at h
        exact nb h
      have h : (os'.map rowOk).all id = true := by simpa using h
      obtain ⟨rows, rfl, hr⟩ := all_some h
      have ro := a2_ro al
      have ro1 : All2 (RoAt H1) vs' rows := ro.imp fun v r h => ro_up v r _ _ (kt_of s1) h
      have lr : vs'.length = rows.length := ro.len
      obtain ⟨v0, hv0⟩ : ∃ v0, vs'[0]? = some v0 := ⟨_, List.getElem?_eq_getElem (by omega)⟩
      obtain ⟨r0, hr0, ro0⟩ := ro1.get hv0
      refine ⟨_, _, SqL.of (s1 _ _ e), atI_nat hv0, _, _, rp_ro ro0, .tup (w_FIRST_ROW.sq H1) (.cons (.int _) (.cons (.tup (w_FIRST_ROW_1.sq H1) (.cons (.int _) (.cons (.int _) .nil))) .nil)), rfl, rfl, ?_⟩
      have ed : PyData.eqv (rd3 r0) (.tuple [.int 0, .tuple [.int 1, .int 2]]) = decide (r0 = (0, 1, 2)) := eqv_rd3 r0 (0, 1, 2)
      rw [ed]
      have bad : ¬ GoodT rows → ∀ H', Same H H' → ExN K "NoTable" E H' := fun c => ex fun ⟨rows', er, g⟩ => c (map_some_inj er ▸ g)
      refine ⟨fun h => ?_, fun h => ?_⟩
      · have h : ¬ r0 = (0, 1, 2) := by simpa using h
        refine bad (fun g => h ?_) _ s1 _ er.y_NoTable
        have := g.2.2.1
        rw [hr0] at this
        exact Option.some.inj this
      have h : r0 = (0, 1, 2) := by simpa using h
      subst h
      refine ⟨_, rfl, _, SqL.of (s1 _ _ e), fun C H2 s2 e2 => ?_⟩
      have e2 : H2 C = some (.lst (vs'.drop 1)) := e2.trans (congrArg (fun l => some (HO.lst l)) (cut_drop (j := 1) (by omega)))
      have s12 := s1.trans s2
      have ro2 : All2 (RoAt H2) vs' rows := ro.imp fun v r h => ro_up v r _ _ (kt_of s12) h
      have lz : (rows.zip (rows.drop 1)).length = rows.length - 1 := by rw [List.length_zip, List.length_drop]; omega
      refine ⟨⟨_, SqL.of (s12 _ _ e)⟩, ⟨_, SqL.of e2⟩, comp_zipR (ms := rows.zip (rows.drop 1)) (fun H x y m => RoAt H x m.1 ∧ RoAt H y m.2) (fun x y m H H' kt h => ⟨ro_up _ _ _ _ kt h.1, ro_up _ _ _ _ kt h.2⟩) (fun _ m y => y = V.bl (goR m.1 m.2)) (fun _ _ _ _ _ h => h) (by omega) (SqL.of (s12 _ _ e)) (SqL.of e2) (by omega) (by rw [List.length_drop]; omega) ?_ ?_ ?_⟩
      · intro i x y m hx hy hm
        obtain ⟨m1, m2⟩ := List.getElem?_zip_eq_some.mp hm
        obtain ⟨a, ha, g1⟩ := ro2.get hx
        rw [List.getElem?_drop] at hy m2
        obtain ⟨b, hb, g2⟩ := ro2.get hy
        rw [ha] at m1
        rw [hb] at m2
        cases m1
        cases m2
        exact ⟨g1, g2⟩
      · intro x y m t H3 hM hm s3 et P hP
        have q1 := row_bd (hr m.1 (List.of_mem_zip hm).1)
        have q2 := row_bd (hr m.2 (List.mem_of_mem_drop (List.of_mem_zip hm).2))
        have bd : ∀ {i : Int}, 0 ≤ i → i ≤ 9999 → Bd 20 i := fun a b => bd_of (b := 9999) (by omega) (by omega) (bd_lit rfl)
        exact ⟨t, _, rfl, SqT.of et, rfl, _, _, rfl, _, _, rfl, rfl, rfl, m.1, m.2, hM, ⟨bd (by omega) (by omega), bd (by omega) (by omega), bd (by omega) (by omega), bd (by omega) (by omega)⟩, hP _ _ (Same.refl _) rfl⟩
      intro D3 H3 zs s3 _ e3 a3
      have y3 := a2_bl a3
      have s13 := s12.trans s3
      refine ⟨(rows.zip (rows.drop 1)).map fun m => goR m.1 m.2, by rw [← y3]; exact SqL.of e3, ?_⟩
      rw [← chn_zip]
      refine ⟨fun h => ?_, fun h => ?_⟩
      · have h : chn rows = false := by simpa using h
        refine bad (fun g => ?_) _ s13 _ er.y_NoTable
        rw [g.2.2.2] at h
        exact nb h
      have h : chn rows = true := by simpa using h
      refine ⟨_, .inl (SqL.of (s13 _ _ e)), fun D hD => ?_⟩
      exact k rows vs' l rfl e rfl ⟨⟨by omega, by omega⟩, hr, hr0, h⟩ D _ (s13.trans (same_upd hD)) (none_back s13 hD) upd_same
def sp_l_cell (K : PySem.W.Frag) (ns : List Int) : Sp := fun vs H Q _ => match vs with
  | [.ref a, .int k] => SqL K H a (ns.map V.int) ∧ (0 ≤ k ∧ k < 1000 ∧ Bits ns) ∧ ∀ c, Q (.int c) H
  | _ => False
theorem sc_l_cell : FnScope ["_law_script", "_law_k", "_law_number"] ["_law_script", "_law_k"] (defScope s_l_cell) := ⟨rfl, rfl, rfl, by decide +kernel, rfl, by decide +kernel, by decide +kernel⟩
theorem ok_l_cell (d : Dfn K mg "_law_cell" s_l_cell ["_law_script", "_law_k"]) (er : Errs K mg c_Ledger c_NoTable c_Rule) (n_len : mg "len" = none)   : Cal P w K mg base "_law_cell" ["_law_script", "_law_k"] 1 (sp_l_cell K ns) := by
  refine d.cal (k := 0) sc_l_cell (fun vs H Q E h => ?_) (fun f cdv A outer s H vs Q E hr h => ?_)
  · match vs, h with
    | [.ref a, .int k], _ => rfl
  · match vs, h with
    | [.ref a, .int k], ⟨hS, ⟨k0, k1, hb⟩, q⟩ =>
      refine ⟨_, (@pss_cons _ _ _ _ _ (@s_if _ _ _ _ _ _ _ _ (@t_cmp _ _ _ _ _ _ _ _ o_lt (dv 1) (@pe_callB _ _ _ _ _ _ _ _ _ c_len (by rfl) n_len (by decide +kernel) (@pa_cons _ _ _ _ _ (dv 0) pa_nil (by rfl)) (by decide) (by decide) (by rfl) (by rfl)) (@nomark _ _ (by decide) (by decide))) (@pss_one _ _ _ (@ps_ret _ _ _ _ (@pe_ix _ _ _ _ _ _ _ i_lst (dv 0) (dv 1) (fun _ _ => rfl)))) pss_nil) (@pss_cons _ _ _ _ _ (@ps_set _ _ (2) _ _ _ _ sc_l_cell.nd rfl (by first | exact Or.inl rfl | exact Or.inr rfl) (@pe_op _ _ _ _ _ _ _ _ o_add (@pe_op _ _ _ _ _ _ _ _ o_mul pe_int (dv 1)) pe_int) (by rfl) (by first | exact .inl rfl | exact .inr rfl | assumption)) (@ss_cutE _ _ _ _ _ (@s_if _ _ _ _ _ _ _ _ (@t_cmp _ _ _ _ _ _ _ _ o_gt (@pe_callB _ _ _ _ _ _ _ _ _ c_len (by rfl) n_len (by decide +kernel) (@pa_cons _ _ _ _ _ (dv 0) pa_nil (by rfl)) (by decide) (by decide) (by rfl) (by rfl)) pe_int (@nomark _ _ (by decide) (by decide))) (@pss_one _ _ _ (@ps_set _ _ (2) _ _ _ _ sc_l_cell.nd rfl (by first | exact Or.inl rfl | exact Or.inr rfl) (@pe_op _ _ _ _ _ _ _ _ o_add (@pe_op _ _ _ _ _ _ _ _ o_add (@pe_op _ _ _ _ _ _ _ _ o_mul (@pe_ix _ _ _ _ _ _ _ i_lst (dv 0) (@pe_op _ _ _ _ _ _ _ _ o_mod (@pe_op _ _ _ _ _ _ _ _ o_mul (dv 1) pe_int) (@pe_callB _ _ _ _ _ _ _ _ _ c_len (by rfl) n_len (by decide +kernel) (@pa_cons _ _ _ _ _ (dv 0) pa_nil (by rfl)) (by decide) (by decide) (by rfl) (by rfl))) (fun _ _ => rfl)) pe_int) (@pe_op _ _ _ _ _ _ _ _ o_mul (@pe_op _ _ _ _ _ _ _ _ o_mul (dv 1) (dv 1)) pe_int)) pe_int) (by rfl) (by first | exact .inl rfl | exact .inr rfl | assumption))) pss_nil) (@pss_one _ _ _ (@ps_ret _ _ _ _ (@pe_op _ _ _ _ _ _ _ _ o_mod (@pe_op _ _ _ _ _ _ _ _ o_mulB (dv 2) (dv 2)) pe_int)))))), ?_⟩
      refine ⟨_, .inl hS, ?_⟩
      rw [List.length_map]
      refine ⟨fun h => ?_, fun h => ?_⟩
      · have h := of_decide_eq_true h
        obtain ⟨j, rfl⟩ := Int.eq_ofNat_of_zero_le k0
        have hj : j < ns.length := by omega
        refine ⟨_, .int ns[j], hS, atI_nat ?_, q _⟩
        rw [List.getElem?_map, List.getElem?_eq_getElem hj]
        rfl
      · clear h
        refine ⟨.inr (.inl ⟨by decide, by decide⟩), ?_⟩
        refine ⟨fun σ H' => ∃ z : Int, σ = [some (.ref a), some (.int k), some (.int z)] ∧ H' = H ∧ Builtin.Int.intBits z ≤ 1100000, ⟨_, .inl hS, ⟨fun h => ?_, fun h => ⟨_, rfl, rfl, Nat.le_trans (intBits_le_64 (by omega) (by omega)) (by decide)⟩⟩⟩, ?_⟩
        · have h := of_decide_eq_true h
          rw [List.length_map] at h
          refine ⟨.inr (.inr ⟨by decide, by decide⟩), _, .inl hS, ?_⟩
          rw [List.length_map]
          refine ⟨h, ?_⟩
          obtain ⟨n, hn, hv⟩ := at_mod ns (show 0 < ns.length by omega) (k * _)
          have kk := sq_small' k0 k1
          refine ⟨_, .int n, hS, hv, .inr (.inr ⟨by decide, by decide⟩), .inr (.inl ⟨by omega, by omega⟩), .inr (.inr ⟨by decide, by decide⟩), _, rfl, rfl, ?_⟩
          refine Nat.le_trans (bits_add (m := 1048576 + 65) (n := 64) (Nat.le_trans (bits_add (m := 1048576 + 64) (n := 64) (bits_mul (m := 1048576) (n := 64) (hb n hn) (intBits_le_64 (by decide) (by decide))) (intBits_le_64 (by omega) (by omega))) (by decide)) (intBits_le_64 (by decide) (by decide))) (by decide)
        · rintro σ H' ⟨z, rfl, rfl, bz⟩
          exact ⟨mulOk_of_bits bz bz (by decide), (by show (0 : Int) < _; decide), q _⟩
def Kn (K : PySem.W.Frag) (so : Int) (C : Addr) : Prop := (so = 0 ∧ PySem.W.nsIn K mainGlobals "Rule" = some (some (.ref C))) ∨ (so = 1 ∧ PySem.W.nsIn K mainGlobals "Early" = some (some (.ref C))) ∨ (so = 2 ∧ PySem.W.nsIn K mainGlobals "Rested" = some (some (.ref C))) ∨ (so = 3 ∧ PySem.W.nsIn K mainGlobals "Capped" = some (some (.ref C)))
structure Fds (fs : List (Str × V)) (so st fi one two : Int) (T : Addr) : Prop where
  st : fs.lookup ("step" : Str) = some (.int st)
  fi : fs.lookup ("first" : Str) = some (.int fi)
  tb : fs.lookup ("table" : Str) = some (.ref T)
  sz : fs.lookup ("size" : Str) = none
  bt : fs.lookup ("bit" : Str) = none
  x1 : so = 1 → fs.lookup ("early" : Str) = some (.int one) ∧ fs.lookup ("many" : Str) = some (.int two)
  x2 : so = 2 → fs.lookup ("pause" : Str) = some (.int one) ∧ fs.lookup ("times" : Str) = some (.int two)
  x3 : so = 3 → fs.lookup ("cap" : Str) = some (.int one)
theorem ns_inj' {K : PySem.W.Frag} {x : Str} {C D : Addr} (h : PySem.W.nsIn K mainGlobals x = some (some (.ref C))) (h' : PySem.W.nsIn K mainGlobals x = some (some (.ref D))) : C = D := by
  rw [h] at h'
  cases h'
  rfl
theorem lk_hit {f : Str} {v : V} {fs : List (Str × V)} : (putF f v fs).lookup f = some v := by rw [lookup_putF, if_pos rfl]
theorem lk_miss {f g : Str} {v : V} {fs : List (Str × V)} {o : Option V} (ne : g ≠ f) (h : fs.lookup g = o) : (putF f v fs).lookup g = o := by rw [lookup_putF, if_neg ne, h]
def Sx (x : Addr) (H H' : Hp) : Prop := ∀ b o, b ≠ x → H b = some o → H' b = some o
theorem Sx.upd {x : Addr} {H : Hp} {o : HO} : Sx x H (upd H x o) := fun b u ne e => by rw [upd_ne ne]; exact e
theorem Sx.trans {x : Addr} {H H1 H2 : Hp} (a : Sx x H H1) (b : Sx x H1 H2) : Sx x H H2 := fun c o ne e => b c o ne (a c o ne e)
theorem Sx.of {x : Addr} {H H' : Hp} (s : Same H H') : Sx x H H' := fun b o _ e => s b o e
theorem Sx.kt {x C dx : Addr} {fs : List (Str × V)} {H H' : Hp} (a : Sx x H H') (h : H x = some (.ins C dx fs)) : Kt H H' := fun p xs e => a p _ (fun z => by rw [z, h] at e; cases e) e
def putR (st fi : Int) (T : Addr) (fs : List (Str × V)) : List (Str × V) := putF "table" (.ref T) (putF "first" (.int fi) (putF "step" (.int st) fs))
def sp_Rule___init__ (K : PySem.W.Frag) (ns : List Int) : Sp := fun vs H Q _ => match vs with
  | [.ref x, .int st, .int fi, .ref L] => ∃ C dx fs rows vs, (H x = some (.ins C dx fs) ∧ Cls K C ∧ NoAttr K C "step" ∧ NoAttr K C "first" ∧ NoAttr K C "table" ∧ fs.length < 900 ∧ H L = some (.lst vs) ∧ All2 (RoAt H) vs rows ∧ GoodT rows) ∧
    ∀ T H', Sx x H H' → T ≠ x → H T = none → H' T = some (.lst vs) → H' x = some (.ins C dx (putR st fi T fs)) → Q .non H'
  | _ => False
theorem sc_Rule___init__ : FnScope ["self", "step", "first", "table"] ["self", "step", "first", "table"] (defScope s_Rule___init__) := ⟨rfl, rfl, rfl, by decide +kernel, rfl, by decide +kernel, by decide +kernel⟩
theorem ok_Rule___init__ (d : DfnM K [c_Rule] [] "__init__" "Rule.__init__" s_Rule___init__ ["self", "step", "first", "table"]) (er : Errs K mg c_Ledger c_NoTable c_Rule)   (c_table_of : Cal P w K mg base "table_of" ["rows"] 5 (sp_table_of K ns)) : CalM P w K mg base [c_Rule] [] "__init__" ["self", "step", "first", "table"] 6 (sp_Rule___init__ K ns) := by
  refine d.cal (k := 5) sc_Rule___init__ (fun vs H Q E h => ?_) (fun f cdv A outer s H vs Q E hr h => ?_)
  · match vs, h with
    | [.ref x, .int st, .int fi, .ref L], _ => rfl
  · match vs, h with
    | [.ref x, .int st, .int fi, .ref L], ⟨C, dx, fs, rows, vs, ⟨h1, h2, n1, n2, n3, l9, hL, al, good⟩, k⟩ =>
      refine ⟨_, (@pss_cons _ _ _ _ _ (@ps_fld _ _ _ _ _ _ _ _ (dv 0) (dv 1) rfl) (@pss_cons _ _ _ _ _ (@ps_fld _ _ _ _ _ _ _ _ (dv 0) (dv 2) rfl) (@pss_one _ _ _ (@ps_fld _ _ _ _ _ _ _ _ (dv 0) (@e_call _ _ _ _ _ _ _ _ _ _ _ c_table_of hr (by decide) (by rfl) (@pa_cons _ _ _ _ _ (dv 3) pa_nil (by rfl)) (by decide) (by rfl) (by rfl)) rfl)))), ?_⟩
      have l1 := length_putF "step" (.int st) fs
      have l2 := length_putF "first" (.int fi) (putF "step" (.int st) fs)
      have nL : L ≠ x := fun z => by rw [z, h1] at hL; cases hL
      refine ⟨x, C, dx, fs, rfl, h1, h2, n1, by omega, ⟨x, C, dx, _, rfl, upd_same, h2, n2, by omega, ?_⟩⟩
      have s2 : Sx x H (upd (upd H x (.ins C dx (putF "step" (.int st) fs))) x (.ins C dx (putF "first" (.int fi) (putF "step" (.int st) fs)))) := Sx.trans Sx.upd Sx.upd
      have e2 : upd (upd H x (.ins C dx (putF "step" (.int st) fs))) x (.ins C dx (putF "first" (.int fi) (putF "step" (.int st) fs))) x = some (.ins C dx (putF "first" (.int fi) (putF "step" (.int st) fs))) := upd_same
      generalize upd (upd H x (.ins C dx (putF "step" (.int st) fs))) x (.ins C dx (putF "first" (.int fi) (putF "step" (.int st) fs))) = H2 at s2 e2
      have hL2 := s2 _ _ nL hL
      have al2 : All2 (RoAt H2) vs rows := al.imp fun v g r => ro_up v g _ _ (s2.kt h1) r
      have lv : vs.length = rows.length := al.len
      have lr := good.1
      refine ⟨some (rows.map some), .inl ⟨L, vs, rows.map some, rfl, hL2, by omega, a2_rw al2, rfl⟩, fun h => absurd ⟨rows, rfl, good⟩ (h _ rfl), fun rows' vs' l' el hl' eo _ T H3 s3 n3' e3 => ?_⟩
      cases el
      rw [hL2] at hl'
      cases hl'
      have nT : T ≠ x := fun z => by rw [z, e2] at n3'; cases n3'
      refine ⟨x, C, dx, _, rfl, s3 _ _ e2, h2, n3, by omega, ?_⟩
      refine k T _ (s2.trans (Sx.trans (Sx.of s3) Sx.upd)) nT ?_ (by rw [upd_ne nT]; exact e3) upd_same
      cases e : H T with
      | none => rfl
      | some o =>
        rw [s2 _ _ nT e] at n3'
        cases n3'
theorem fd0 {st fi : Int} {T : Addr} {fs : List (Str × V)} (h : fs = []) : Fds (putR st fi T fs) 0 st fi 0 0 T := by
  subst h
  exact ⟨lk_miss (by decide +kernel) (lk_miss (by decide +kernel) lk_hit), lk_miss (by decide +kernel) lk_hit, lk_hit, lk_miss (by decide +kernel) (lk_miss (by decide +kernel) (lk_miss (by decide +kernel) rfl)), lk_miss (by decide +kernel) (lk_miss (by decide +kernel) (lk_miss (by decide +kernel) rfl)), fun h => absurd h (by decide), fun h => absurd h (by decide), fun h => absurd h (by decide)⟩
abbrev lp12 : Pos := ⟨47, 29, 47, 53⟩
abbrev q12 : Str := Str.ofString "in_order" ++ Str.ofString ".<locals>." ++ Str.ofString "<lambda>"
abbrev T12 (K : PySem.W.Frag) : Addr := tabP K "in_order"
def dk (gs : List Gm) (i : Nat) : Int := match gs[i]? with
  | some g => g.d
  | none => 0
theorem stb_nd {key : Nat → Int} {n : Nat} {p : List Nat} (h : Stb key n p) : p.Nodup := h.2.2.imp fun {a b} l e => by
  subst e
  rcases l with l | ⟨_, l⟩
  · exact Int.lt_irrefl _ l
  · exact Nat.lt_irrefl _ l
theorem stb_rng' {key : Nat → Int} {n : Nat} {p : List Nat} (h : Stb key n p) : p.Perm (List.range n) := by
  have nd := stb_nd h
  refine (List.perm_ext_iff_of_nodup nd List.nodup_range).mpr fun i => ⟨fun hi => List.mem_range.mpr (h.2.1 i hi), fun hi => ?_⟩
  refine Classical.byContradiction fun c => ?_
  have := nd_len (l := i :: p) (m := List.range n) (List.nodup_cons.mpr ⟨c, nd⟩) fun x hx => by
    rcases List.mem_cons.mp hx with rfl | hx
    · exact hi
    · exact List.mem_range.mpr (h.2.1 x hx)
  rw [List.length_cons, List.length_range, h.1] at this
  omega
theorem stb_uniq {key : Nat → Int} {n : Nat} {p q : List Nat} (hp : Stb key n p) (hq : Stb key n q) : p = q := by
  refine List.Perm.eq_of_pairwise (le := Lt key) (fun a b _ _ l l' => ?_) hp.2.2 hq.2.2 ((stb_rng' hp).trans (stb_rng' hq).symm)
  rcases l with l | ⟨e, l⟩
  · rcases l' with l' | ⟨e', l'⟩ <;> omega
  · rcases l' with l' | ⟨e', l'⟩ <;> omega
theorem stb_ins {key : Nat → Int} {i t : Nat} {q : List Nat} (h : Stb key i q) (lo : ∀ j ∈ q.take t, key j ≤ key i) (hi : ∀ j ∈ q.drop t, key i < key j) : Stb key (i + 1) (q.take t ++ i :: q.drop t) := by
  obtain ⟨h1, h2, h3⟩ := h
  have e : q.take t ++ q.drop t = q := List.take_append_drop t q
  refine ⟨?_, fun j hj => ?_, ?_⟩
  · have := congrArg List.length e
    rw [List.length_append] at this
    rw [List.length_append, List.length_cons]
    omega
  · rcases List.mem_append.mp hj with hj | hj
    · exact Nat.lt_succ_of_lt (h2 j (List.mem_of_mem_take hj))
    · rcases List.mem_cons.mp hj with rfl | hj
      · exact Nat.lt_succ_self _
      · exact Nat.lt_succ_of_lt (h2 j (List.mem_of_mem_drop hj))
  · have h3' := h3
    rw [← e] at h3'
    obtain ⟨p1, p2, p3⟩ := List.pairwise_append.mp h3'
    refine List.pairwise_append.mpr ⟨p1, List.pairwise_cons.mpr ⟨fun j hj => .inl (hi j hj), p2⟩, fun a ha b hb => ?_⟩
    rcases List.mem_cons.mp hb with rfl | hb
    · have l1 := lo a ha
      have l2 := h2 a (List.mem_of_mem_take ha)
      by_cases c : key a < key b
      · exact .inl c
      · exact .inr ⟨by omega, l2⟩
    · exact p3 a ha b hb
theorem stb_lo {key : Nat → Int} {i t j : Nat} {q : List Nat} (h : Stb key i q) (e : q[t]? = some j) (l : key j ≤ key i) : ∀ a ∈ q.take (t + 1), key a ≤ key i := fun a ha => by
  obtain ⟨k, hk, rfl⟩ := List.getElem_of_mem ha
  rw [List.length_take] at hk
  rw [List.getElem_take]
  obtain ⟨ht, ej⟩ := List.getElem?_eq_some_iff.mp e
  by_cases c : k = t
  · subst c
    rw [ej]
    exact l
  · have := List.pairwise_iff_getElem.mp h.2.2 k t (by omega) ht (by omega)
    rw [ej] at this
    rcases this with z | ⟨z, _⟩ <;> omega
def SmT (P : Addr) (H H' : Hp) : Prop := ∀ b o, b ≠ P → H b = some o → H' b = some o
def pk (vs : List V) (p : List Nat) : List V := p.map fun i => vs.getD i .non
theorem dk_at {H : Hp} {vs : List V} {gs : List Gm} (a : All2 (GmAt H) vs gs) {i : Nat} {v : V} (e : vs[i]? = some v) : ∃ g, gs[i]? = some g ∧ GmAt H v g ∧ dk gs i = g.d := by
  obtain ⟨g, h1, h2⟩ := a.get e
  refine ⟨g, h1, h2, ?_⟩
  unfold dk
  rw [h1]
def sp_in_order (K : PySem.W.Frag) (ns : List Int) : Sp := fun vs H Q _ => match vs with
  | [.ref L] => ∃ (gs : List Gm) (xs : List V), (SqL K H L xs ∧ All2 (GmAt H) xs gs ∧ gs.length < 64 ∧ TabOk H (T12 K) lp12 q12) ∧ ∀ D H' p, SmT (T12 K) H H' → H D = none → H' D = some (.lst (pk xs p)) → TabOk H' (T12 K) lp12 q12 → Stb (dk gs) gs.length p → Q (.ref D) H'
  | _ => False
theorem sc_in_order : FnScope ["games"] ["games"] (defScope s_in_order) := ⟨rfl, rfl, rfl, by decide +kernel, rfl, by decide +kernel, by decide +kernel⟩
theorem ok_in_order (d : Dfn K mg "in_order" s_in_order ["games"]) (tk : TabK K mg base "in_order") (er : Errs K mg c_Ledger c_NoTable c_Rule) (n_sorted : mg "sorted" = none)   : Cal P w K mg base "in_order" ["games"] 3 (sp_in_order K ns) := by
  refine d.calT (k := 2) tk sc_in_order (fun vs H Q E h => ?_) (fun f cdv A outer s H vs Q E tf hr h => ?_)
  · match vs, h with
    | [.ref L], _ => rfl
  · match vs, h with
    | [.ref L], ⟨gs, xs, ⟨hx, hm, hl, hT⟩, k⟩ =>
      refine ⟨_, (@pss_one _ _ _ (@ps_ret _ _ _ _ (e_sortK (k := 0) tf hr (by rfl) n_sorted (@pa_cons _ _ _ _ _ (dv 0) pa_nil (by rfl))))), ?_⟩
      refine ⟨L, xs, dk gs, rfl, hx, by rw [hm.len]; exact hl, fun i v e => ?_, hT, fun D H2 p s d e t st => k D H2 p s d e t (by rw [← hm.len]; exact st)⟩
      obtain ⟨g, h1, ⟨a, rfl, ea⟩, h3⟩ := dk_at hm e
      rw [h3]
      exact ⟨a, _, rfl, ea⟩
def off (T : Addr) (H : Hp) : Hp := fun b => if b = T then none else H b
theorem off_same {T : Addr} {H : Hp} : Same (off T H) H := fun b o e => by
  unfold off at e
  split at e
  · cases e
  · exact e
theorem off_none {T b : Addr} {H : Hp} (h : H b = none) : off T H b = none := by
  unfold off
  split
  · rfl
  · exact h
theorem tab_sx {H H' : Hp} {P x : Addr} {pos : Pos} {q : Str} (h : TabOk H P pos q) (s : Sx x H H') (hx : (∃ zs, H x = some (.lst zs)) ∨ ∃ kvs, H x = some (.dK kvs)) : TabOk H' P pos q := by
  obtain ⟨ps, h1, h2, h3⟩ := h
  have nP : P ≠ x := fun z => by
    rcases hx with ⟨zs, e⟩ | ⟨kvs, e⟩ <;> (rw [← z, h1] at e; cases e)
  refine ⟨ps, s _ _ nP h1, h2, h3.imp id ?_⟩
  rintro ⟨c, e1, e2⟩
  refine ⟨c, e1, s _ _ (fun z => ?_) e2⟩
  rcases hx with ⟨zs, e⟩ | ⟨kvs, e⟩ <;> (rw [← z, e2] at e; cases e)
def pg (gs : List Gm) (p : List Nat) : List Gm := p.filterMap fun i => gs[i]?
theorem pg_at {H : Hp} {xs : List V} {gs : List Gm} (a : All2 (GmAt H) xs gs) : ∀ {p : List Nat}, (∀ i ∈ p, i < gs.length) → All2 (GmAt H) (pk xs p) (pg gs p)
  | [], _ => .nil
  | i :: p, h => by
    have hi := h i List.mem_cons_self
    have r := pg_at a (p := p) fun j hj => h j (List.mem_cons_of_mem _ hj)
    have hx : i < xs.length := by rw [a.len]; exact hi
    obtain ⟨g, g1, g2⟩ := a.get (List.getElem?_eq_getElem hx)
    have e1 : pk xs (i :: p) = xs[i] :: pk xs p := by
      unfold pk
      rw [List.map_cons, List.getD_eq_getElem?_getD, List.getElem?_eq_getElem hx]
      rfl
    have e2 : pg gs (i :: p) = g :: pg gs p := by
      unfold pg
      rw [List.filterMap_cons, g1]
    rw [e1, e2]
    exact .cons g2 r
theorem pg_mem {gs : List Gm} {p : List Nat} {g : Gm} (h : g ∈ pg gs p) : g ∈ gs := by
  obtain ⟨i, _, e⟩ := List.mem_filterMap.mp h
  exact List.mem_of_getElem? e
theorem Sx.kt' {x : Addr} {kvs : List (Key × V)} {H H' : Hp} (a : Sx x H H') (h : H x = some (.dK kvs)) : Kt H H' := fun p xs e => a p _ (fun z => by rw [z, h] at e; cases e) e
theorem off_at {T b : Addr} {H : Hp} {o : HO} {ps : Array Value} (t : H T = some (.tbl ps)) (e : H b = some o) (n : ∀ ps, o ≠ .tbl ps) : off T H b = some o := by
  unfold off
  rw [if_neg fun z => ?_]
  · exact e
  · rw [z, t] at e
    exact n ps (Option.some.inj e).symm
theorem off_sq {K : PySem.W.Frag} {T a : Addr} {H : Hp} {xs : List V} {ps : Array Value} (t : H T = some (.tbl ps)) (h : SqL K H a xs) : SqL K (off T H) a xs := by
  rcases h with h | h
  · refine .inl ?_
    rcases h with h | ⟨ob, h⟩
    · exact .inl (off_at t h fun _ => nofun)
    · exact .inr ⟨ob, off_at t h fun _ => nofun⟩
  · exact .inr h
def dListN (K : PySem.W.Frag) : List V → Hp → VK → Prop := fun xs H Q => match xs with
  | [.ref p] => ∃ ys, (SqL K H p ys ∨ SqT K H p ys) ∧ ∀ l, H l = none → Q (.ref l) (upd H l (.lst ys))
  | _ => False
theorem c_listN {X : Cx} : CallR X (.type "list") (dListN X.K) := by
  intro pins s σ H xs us Q I r h
  match xs, h with
  | [.ref p], ⟨ys, h1, q⟩ => exact call_list_of pins s σ H _ us Q I r ⟨p, ys, rfl, h1, fun l hl => q l hl⟩
def sp_players (K : PySem.W.Frag) (ns : List Int) : Sp := fun vs H Q _ => match vs with
  | [.ref L] => ∃ gs, (Bk K H L gs ∧ (plr gs).length < 64) ∧ ∀ D H', Same H H' → H D = none → H' D = some (.lst ((plr gs).map V.str)) → Q (.ref D) H'
  | _ => False
theorem sc_players : FnScope ["games"] ["games"] (defScope s_players) := ⟨rfl, rfl, rfl, by decide +kernel, rfl, by decide +kernel, by decide +kernel⟩
theorem ok_players (d : Dfn K mg "players" s_players ["games"]) (er : Errs K mg c_Ledger c_NoTable c_Rule) (n_sorted : mg "sorted" = none) (n_set : mg "set" = none)   : Cal P w K mg base "players" ["games"] 1 (sp_players K ns) := by
  refine d.cal (k := 0) sc_players (fun vs H Q E h => ?_) (fun f cdv A outer s H vs Q E hr h => ?_)
  · match vs, h with
    | [.ref L], _ => rfl
  · match vs, h with
    | [.ref L], ⟨gs, ⟨⟨vs, hx, hm, hl⟩, h64⟩, k⟩ =>
      refine ⟨_, (@pss_one _ _ _ (@ps_ret _ _ _ _ (@e_sset _ _ _ _ _ _ _ (by rfl) n_sorted (by rfl) n_set (@pe_op _ _ _ _ _ _ _ _ o_catL (@e_compN _ _ _ _ _ _ _ _ _ _ ["played"] [] [] rfl (@pi_list _ _ _ _ (dv 0)) (fun C s H fp => (@pg_name _ _ (0) _ (show List.Nodup [("played" : Str)] by decide +kernel) rfl (by first | exact Or.inl rfl | exact Or.inr rfl) (by first | exact .inl rfl | exact .inr rfl | assumption))) (fun C s H fp => (@pe_ix _ _ _ _ _ _ _ i_tup (dv 0) pe_int (fun _ _ => rfl))) rfl rfl (by decide +kernel) (by decide +kernel) (by rfl) True.intro True.intro (by intro _; rfl)) (@e_compN _ _ _ _ _ _ _ _ _ _ ["played"] [] [] rfl (@pi_list _ _ _ _ (dv 0)) (fun C s H fp => (@pg_name _ _ (0) _ (show List.Nodup [("played" : Str)] by decide +kernel) rfl (by first | exact Or.inl rfl | exact Or.inr rfl) (by first | exact .inl rfl | exact .inr rfl | assumption))) (fun C s H fp => (@pe_ix _ _ _ _ _ _ _ i_tup (dv 0) pe_int (fun _ _ => rfl))) rfl rfl (by decide +kernel) (by decide +kernel) (by rfl) True.intro True.intro (by intro _; rfl))) (by rfl) (by rfl) (by rfl)))), ?_⟩
      have hz : vs.length ≤ 1000 := by rw [hm.len]; omega
      refine ⟨L, rfl, ⟨_, hx⟩, comp_abs GmAt gm_up (fun _ g y => y = V.str g.a) (fun _ _ _ _ _ h => h) hz hx hm ?_ ?_⟩
      · intro v m H2 hM _ s2 P hP
        obtain ⟨p, rfl, e⟩ := hM
        exact ⟨rfl, _, e, hP _ _ (Same.refl _) rfl⟩
      intro D1 H1 ys1 s1 _ e1 a1
      have y1 := all2_strs a1
      have hm1 : All2 (GmAt H1) vs gs := hm.imp fun v g r => gm_up v g _ _ (kt_of s1) r
      refine ⟨L, rfl, ⟨_, s1.seq hx⟩, comp_abs GmAt gm_up (fun _ g y => y = V.str g.b) (fun _ _ _ _ _ h => h) hz (s1.seq hx) hm1 ?_ ?_⟩
      · intro v m H2 hM _ s2 P hP
        obtain ⟨p, rfl, e⟩ := hM
        exact ⟨rfl, _, e, hP _ _ (Same.refl _) rfl⟩
      intro D2 H2 ys2 s2 _ e2 a2
      have y2 := all2_strs a2
      have l1 := a1.len
      have l2 := a2.len
      refine ⟨_, _, s2 _ _ e1, e2, by omega, fun D3 H3 s3 e3 => ⟨gs.map (·.a) ++ gs.map (·.b), SqL.of ?_, ?_, h64, fun D hD => ?_⟩⟩
      · rw [e3, y1, y2, List.map_append]
      · rw [List.length_append, List.length_map, List.length_map]
        omega
      · have s := s1.trans (s2.trans s3)
        exact k D _ (s.trans (same_upd hD)) (none_back s hD) upd_same
abbrev En := Int × Gm
def EnAt (H : Hp) (kv : Key × V) (e : En) : Prop := kv.1 = Sum.inl e.1 ∧ GmAt H kv.2 e.2
theorem en_up (kv : Key × V) (e : En) (H H' : Hp) (k : Kt H H') (h : EnAt H kv e) : EnAt H' kv e := ⟨h.1, gm_up _ _ _ _ k h.2⟩
def EInc (es : List En) : Prop := es.Pairwise fun a b => a.1 < b.1
def KpAt (H : Hp) (A : Addr) (es : List En) : Prop := ∃ kvs, H A = some (.dK kvs) ∧ All2 (EnAt H) kvs es
theorem en_vals {H : Hp} : ∀ {kvs : List (Key × V)} {es : List En}, All2 (EnAt H) kvs es → All2 (GmAt H) (kvs.map (·.2)) (es.map (·.2))
  | _, _, .nil => .nil
  | _, _, .cons h t => .cons h.2 (en_vals t)
theorem en_keys {H : Hp} : ∀ {kvs : List (Key × V)} {es : List En}, All2 (EnAt H) kvs es → kvs.map (·.1) = es.map fun e => (Sum.inl e.1 : Key)
  | _, _, .nil => rfl
  | _, _, .cons h t => by rw [List.map_cons, List.map_cons, h.1, en_keys t]
theorem einc_no {e : En} {es : List En} (h : EInc (e :: es)) : ∀ x ∈ es, x.1 ≠ e.1 := fun x hx => by
  have := (List.pairwise_cons.mp h).1 x hx
  omega
theorem en_val {H : Hp} : ∀ {kvs : List (Key × V)} {es : List En}, All2 (EnAt H) kvs es → EInc es → ∀ {n : Int} {g : Gm}, (n, g) ∈ es → ∃ v, valV kvs (Sum.inl n) = some v ∧ GmAt H v g
  | _, _, .cons (a := kv) (b := e) h t, hi, n, g, hm => by
    rcases List.mem_cons.mp hm with e' | hm
    · refine ⟨kv.2, valV_pos (by rw [h.1, ← e']), ?_⟩
      have := h.2
      rw [← e'] at this
      exact this
    · obtain ⟨v, h1, h2⟩ := en_val t (List.pairwise_cons.mp hi).2 hm
      refine ⟨v, ?_, h2⟩
      rw [valV_neg]
      · exact h1
      · rw [h.1]
        intro z
        have := einc_no hi _ hm
        exact this (Sum.inl.inj z).symm
theorem en_none {H : Hp} : ∀ {kvs : List (Key × V)} {es : List En}, All2 (EnAt H) kvs es → ∀ {n : Int}, (∀ e ∈ es, e.1 ≠ n) → valV kvs (Sum.inl n) = none
  | _, _, .nil, _, _ => rfl
  | _, _, .cons (a := kv) (b := e) h t, n, hn => by
    rw [valV_neg]
    · exact en_none t fun e he => hn e (List.mem_cons_of_mem _ he)
    · rw [h.1]
      intro z
      exact hn e List.mem_cons_self (Sum.inl.inj z)
theorem en_drop {H : Hp} : ∀ {kvs : List (Key × V)} {es : List En}, All2 (EnAt H) kvs es → ∀ (n : Int), All2 (EnAt H) (dropK kvs (Sum.inl n)) (es.filter fun e => decide (e.1 ≠ n))
  | _, _, .nil, _ => .nil
  | _, _, .cons (a := kv) (b := e) h t, n => by
    have ih := en_drop t n
    unfold dropK at ih ⊢
    by_cases c : e.1 = n
    · rw [List.filter_cons_of_neg (by rw [h.1, c]; simp), List.filter_cons_of_neg (by simp [c])]
      exact ih
    · rw [List.filter_cons_of_pos (by rw [h.1]; simp [c]), List.filter_cons_of_pos (by simp [c])]
      exact .cons h ih
def bhd (es : List En) (n : Int) (g0 : Gm) : List En := es.filter fun e => gt2 e.2.d e.1 g0.d n
theorem einc_uniq : ∀ {es : List En}, EInc es → ∀ {e e' : En}, e ∈ es → e' ∈ es → e.1 = e'.1 → e = e'
  | x :: es, h, e, e', he, he', z => by
    rcases List.mem_cons.mp he with h1 | h1
    · rcases List.mem_cons.mp he' with h2 | h2
      · rw [h1, h2]
      · rw [h1] at z
        exact absurd z.symm (einc_no h _ h2)
    · rcases List.mem_cons.mp he' with h2 | h2
      · rw [h2] at z
        exact absurd z (einc_no h _ h1)
      · exact einc_uniq (List.pairwise_cons.mp h).2 h1 h2 z
def cB (es : List En) (n : Int) (g0 : Gm) : Key → Bool
  | .inl m => es.any fun e => decide (e.1 = m) && gt2 e.2.d e.1 g0.d n
  | .inr _ => false
theorem cB_at {es : List En} (h : EInc es) {n : Int} {g0 : Gm} {e : En} (he : e ∈ es) : cB es n g0 (Sum.inl e.1) = gt2 e.2.d e.1 g0.d n := by
  unfold cB
  rw [Bool.eq_iff_iff, List.any_eq_true]
  constructor
  · rintro ⟨x, hx, c⟩
    rw [Bool.and_eq_true] at c
    have := einc_uniq h hx he (of_decide_eq_true c.1)
    subst this
    exact c.2
  · intro c
    exact ⟨e, he, by rw [Bool.and_eq_true]; exact ⟨decide_eq_true rfl, c⟩⟩
theorem cB_keys {es : List En} (h : EInc es) {n : Int} {g0 : Gm} : (es.map fun e => (Sum.inl e.1 : Key)).filter (cB es n g0) = (bhd es n g0).map fun e => (Sum.inl e.1 : Key) := by
  rw [List.filter_map]
  unfold bhd
  congr 1
  exact List.filter_congr fun e he => cB_at h he
theorem all2_en {H : Hp} {es : List En} : ∀ {l : List En} {ys : List V}, (∀ e ∈ l, e ∈ es) → All2 (fun (x : Key) y => ∀ e ∈ es, x = Sum.inl e.1 → GmAt H y e.2) (l.map fun e => (Sum.inl e.1 : Key)) ys → All2 (GmAt H) ys (l.map (·.2))
  | [], _, _, .nil => .nil
  | e :: l, _, hl, .cons h t => .cons (h e (hl e List.mem_cons_self) rfl) (all2_en (fun e he => hl e (List.mem_cons_of_mem _ he)) t)
def sp_behind (K : PySem.W.Frag) (ns : List Int) : Sp := fun vs H Q _ => match vs with
  | [.ref A, .int n] => ∃ (es : List En) (g0 : Gm), (KpAt H A es ∧ EInc es ∧ es.length ≤ 40 ∧ (n, g0) ∈ es ∧ TabOk H (T12 K) lp12 q12) ∧
    ∀ D vs H' p, SmT (T12 K) H H' → H D = none → H' D = some (.lst vs) → TabOk H' (T12 K) lp12 q12 → Stb (dk ((bhd es n g0).map (·.2))) ((bhd es n g0).map (·.2)).length p → All2 (GmAt H') vs (pg ((bhd es n g0).map (·.2)) p) → Q (.ref D) H'
  | _ => False
theorem sc_behind : FnScope ["kept", "number", "place"] ["kept", "number"] (defScope s_behind) := ⟨rfl, rfl, rfl, by decide +kernel, rfl, by decide +kernel, by decide +kernel⟩
theorem ok_behind (d : Dfn K mg "behind" s_behind ["kept", "number"]) (er : Errs K mg c_Ledger c_NoTable c_Rule)   (c_in_order : Cal P w K mg base "in_order" ["games"] 3 (sp_in_order K ns)) : Cal P w K mg base "behind" ["kept", "number"] 4 (sp_behind K ns) := by
  refine d.cal (k := 3) sc_behind (fun vs H Q E h => ?_) (fun f cdv A outer s H vs Q E hr h => ?_)
  · match vs, h with
    | [.ref A, .int n], _ => rfl
  · match vs, h with
    | [.ref A, .int n], ⟨es, g0, ⟨⟨kvs, eA, al⟩, hi, l40, hn, tk⟩, k⟩ =>
      refine ⟨_, (@pss_cons _ _ _ _ _ (@ps_set _ _ (2) _ _ _ _ sc_behind.nd rfl (by first | exact Or.inl rfl | exact Or.inr rfl) (@e_tup _ _ _ _ _ (@pa_cons _ _ _ _ _ (@pe_ix _ _ _ _ _ _ _ i_tup (@pe_dget _ _ _ _ _ _ (@u1 _ _ hr.units) (dv 0) (dv 1) (fun _ _ => rfl)) pe_int (fun _ _ => rfl)) (@pa_cons _ _ _ _ _ (dv 1) pa_nil (by rfl)) (by rfl))) (by rfl) (by first | exact .inl rfl | exact .inr rfl | assumption)) (@pss_one _ _ _ (@ps_ret _ _ _ _ (@e_call _ _ _ _ _ _ _ _ _ _ _ c_in_order hr (by decide) (by rfl) (@pa_cons _ _ _ _ _ (@pe_thaw _ _ _ (@e_compIN _ _ _ _ _ _ _ _ _ _ _ _ ["other"] ["kept", "place"] [0, 2] rfl (@pi_keysK _ _ _ _ (dv 0)) (fun C s H fp => (@pg_name _ _ (0) _ (show List.Nodup [("other" : Str), ("kept" : Str), ("place" : Str)] by decide +kernel) rfl (by first | exact Or.inl rfl | exact Or.inr rfl) (by first | exact .inl rfl | exact .inr rfl | assumption))) (fun C s H fp => (@t_cmp _ _ _ _ _ _ _ _ (show OpR _ _ dGt2 from (o_gt2 hr.units)) (@e_tup _ _ _ _ _ (@pa_cons _ _ _ _ _ (@pe_ix _ _ _ _ _ _ _ i_tup (@pe_dget _ _ _ _ _ _ (@u1 _ _ hr.units) (dv 1) (dv 0) (fun _ _ => rfl)) pe_int (fun _ _ => rfl)) (@pa_cons _ _ _ _ _ (dv 0) pa_nil (by rfl)) (by rfl))) (dv 2) (@nomark _ _ (by decide) (by decide)))) (fun C s H fp => (@pe_dget _ _ _ _ _ _ (@u1 _ _ hr.units) (dv 1) (dv 0) (fun _ _ => rfl))) rfl rfl (by decide +kernel) (by decide +kernel) (by rfl) ⟨rfl, ⟨rfl, True.intro⟩⟩ ⟨⟨rfl, rfl, rfl, rfl⟩, ⟨⟨rfl, rfl, rfl, rfl⟩, True.intro⟩⟩ (by intro _; rfl))) pa_nil (by rfl)) (by decide) (by rfl) (by rfl))))), ?_⟩
      obtain ⟨v0, hv0, p0, rfl, hp0⟩ := en_val al hi hn
      have dg : ∀ {H' : Hp} {m : Int}, Rd H' A (.dK kvs) → DGet H' A (.int m) (valV kvs (Sum.inl m)) := fun e => .inl ⟨kvs, Sum.inl _, e, rfl, rfl⟩
      have g1 := dg (m := n) (.inl eA)
      rw [hv0] at g1
      refine ⟨A, _, rfl, g1, _, hp0, fun P H1 s1 e1 => ?_⟩
      have eA1 := s1 _ _ eA
      refine ⟨A, kvs, rfl, eA1, fun o => ?_⟩
      have x2 : Sx A H1 (upd H1 A (.frz o (.dK kvs))) := Sx.upd
      have e2 : upd H1 A (.frz o (.dK kvs)) A = some (.frz o (.dK kvs)) := upd_same
      have kt2 : Kt H1 (upd H1 A (.frz o (.dK kvs))) := x2.kt' eA1
      have eP2 := kt2 _ _ e1
      have al2 : All2 (EnAt (upd H1 A (.frz o (.dK kvs)))) kvs es := al.imp fun kv e r => en_up kv e _ _ ((kt_of s1).trans kt2) r
      generalize upd H1 A (.frz o (.dK kvs)) = H2 at x2 e2 kt2 eP2 al2
      have kl : kvs.length ≤ 40 := by rw [al.len]; exact l40
      have ek := en_keys al
      refine comp_keysKI (fun H x y => ∀ e ∈ es, x = Sum.inl e.1 → GmAt H y e.2) (fun x y H H' kt h e he z => gm_up _ _ _ _ kt (h e he z)) (cB es n g0) (by omega) e2 ?_ ?_
      · intro x H3 hx s3 P3 P3' hP hP'
        rw [ek] at hx
        obtain ⟨e, he, rfl⟩ := List.mem_map.mp hx
        obtain ⟨v, hv, p, rfl, hp⟩ := en_val (al2.imp fun kv e r => en_up kv e _ _ (kt_of s3) r) hi he
        have gx := dg (m := e.1) (.inr ⟨o, s3 _ _ e2⟩)
        rw [hv] at gx
        have hP := hP
        rw [cB_at hi he] at hP hP'
        have un : ∀ {H' : Hp}, GmAt H' (.ref p) e.2 → ∀ e' ∈ es, (Sum.inl e.1 : Key) = Sum.inl e'.1 → GmAt H' (.ref p) e'.2 := fun hg e' he' z => by
          have := einc_uniq hi he he' (Sum.inl.inj z)
          subst this
          exact hg
        refine ⟨rfl, A, _, rfl, gx, _, hp, fun T H4 s4 e4 => ⟨e.2.d, e.1, g0.d, n, e4, s4 _ _ (s3 _ _ eP2), ⟨fun h => ?_, fun h => hP' h _ s4⟩⟩⟩
        have gx4 := dg (m := e.1) (.inr ⟨o, s4 _ _ (s3 _ _ e2)⟩)
        rw [hv] at gx4
        exact ⟨A, _, rfl, gx4, hP h _ _ s4 (un ⟨p, rfl, s4 _ _ hp⟩)⟩
      intro D0 H3 ys s3 n3 e3 a3
      rw [ek, cB_keys hi] at a3
      have aY : All2 (GmAt H3) ys ((bhd es n g0).map (·.2)) := all2_en (fun e he => (List.mem_filter.mp he).1) a3
      have e3A := s3 _ _ e2
      refine ⟨A, o, kvs, e3A, fun o' u z => ?_, ?_⟩
      · have z : H A = some (.frz o' u) := z
        rw [eA] at z
        cases z
      have nDA : D0 ≠ A := fun z => by rw [z, e3A] at e3; cases e3
      have sA : Sx A H3 (upd H3 A (.dK kvs)) := Sx.upd
      have s14 : Same H1 (upd H3 A (.dK kvs)) := fun b u e => by
        by_cases c : b = A
        · subst c
          rw [eA1] at e
          cases e
          exact upd_same
        · exact sA b u c (s3 b u (x2 b u c e))
      have kt4 : Kt H3 (upd H3 A (.dK kvs)) := fun p xs e => sA p _ (fun z => by rw [z, e3A] at e; cases e) e
      have eD4 := sA _ _ nDA e3
      generalize upd H3 A (.dK kvs) = H4 at sA s14 kt4 eD4
      have aY4 := aY.imp fun v g r => gm_up v g _ _ kt4 r
      have s04 := s1.trans s14
      have lb : (bhd es n g0).length ≤ es.length := List.length_filter_le _ _
      refine ⟨_, ys, ⟨SqL.of eD4, aY4, by rw [List.length_map]; omega, tk.up s04⟩, fun D H5 p sm nD eD tk5 stb => ?_⟩
      obtain ⟨ps, tt, _⟩ := tk.up s04
      have kt5 : Kt H4 H5 := fun q xs e => sm q _ (fun z => by rw [z, tt] at e; cases e) e
      exact k D _ H5 p (fun b o ne e => sm b o ne (s04 b o e)) (none_back s04 nD) eD tk5 stb (pg_at (aY4.imp fun v g r => gm_up v g _ _ kt5 r) fun i hi => stb.2.1 i hi)
def nmF (ns : List Str) (gs : List Gm) : List Str := gs.foldl (fun ns g => if g.a ∈ ns ∨ g.b ∈ ns then ns ++ [g.a, g.b] else ns) ns
theorem nmF_len : ∀ (gs : List Gm) (ns : List Str), (nmF ns gs).length ≤ ns.length + 2 * gs.length
  | [], _ => Nat.le_refl _
  | g :: gs, ns => by
    have := nmF_len gs (if g.a ∈ ns ∨ g.b ∈ ns then ns ++ [g.a, g.b] else ns)
    show (nmF (if g.a ∈ ns ∨ g.b ∈ ns then ns ++ [g.a, g.b] else ns) gs).length ≤ _
    have l : (if g.a ∈ ns ∨ g.b ∈ ns then ns ++ [g.a, g.b] else ns).length ≤ ns.length + 2 := by
      split
      · rw [List.length_append]
        exact Nat.le_refl _
      · omega
    rw [List.length_cons]
    omega
theorem nmF_sub {nm : List Str} : ∀ {gs : List Gm} {ns : List Str}, (∀ x ∈ ns, x ∈ nm) → (∀ g ∈ gs, g.a ∈ nm ∧ g.b ∈ nm) → ∀ x ∈ nmF ns gs, x ∈ nm
  | [], _, h, _ => h
  | g :: gs, ns, h, hg => by
    refine nmF_sub (gs := gs) (fun x hx => ?_) fun g' h' => hg g' (List.mem_cons_of_mem _ h')
    obtain ⟨g1, g2⟩ := hg g List.mem_cons_self
    have hx : x ∈ (if g.a ∈ ns ∨ g.b ∈ ns then ns ++ [g.a, g.b] else ns) := hx
    split at hx
    · rcases List.mem_append.mp hx with hx | hx
      · exact h x hx
      · rcases List.mem_cons.mp hx with rfl | hx
        · exact g1
        · rw [List.mem_singleton.mp hx]
          exact g2
    · exact h x hx
theorem nmF_snoc {gs : List Gm} {ns : List Str} {g : Gm} : nmF ns (gs ++ [g]) = if g.a ∈ nmF ns gs ∨ g.b ∈ nmF ns gs then nmF ns gs ++ [g.a, g.b] else nmF ns gs := by
  unfold nmF
  rw [List.foldl_append]
  rfl
theorem inV_strs {x : Str} : ∀ (l : List Str), inV (.str x) (l.map V.str) = decide (x ∈ l)
  | [] => rfl
  | y :: l => by
    have ih := inV_strs (x := x) l
    unfold inV at ih ⊢
    rw [List.map_cons, List.any_cons, ih]
    have e : ((y : Str) == x) = decide (y = x) := by
      by_cases h : y = x
      · subst h; simp
      · rw [decide_eq_false h]; exact beq_eq_false_iff_ne.mpr h
    show ((y == x) || decide (x ∈ l)) = _
    rw [e, ← Bool.decide_or]
    refine decide_eq_decide.mpr ⟨fun h => ?_, fun h => ?_⟩
    · rcases h with rfl | h
      · exact List.mem_cons_self
      · exact List.mem_cons_of_mem _ h
    · rcases List.mem_cons.mp h with rfl | h
      · exact .inl rfl
      · exact .inr h
theorem flat_strs : ∀ (l : List Str), (l.map V.str).all flatV = true
  | [] => rfl
  | _ :: l => by
    rw [List.map_cons, List.all_cons, flat_strs l]
    rfl
def sp_reached (K : PySem.W.Frag) (ns : List Int) : Sp := fun vs H Q _ => match vs with
  | [.ref A, .int n] => ∃ (es : List En) (g0 : Gm) (nm : List Str), (KpAt H A es ∧ EInc es ∧ es.length ≤ 40 ∧ (n, g0) ∈ es ∧ TabOk H (T12 K) lp12 q12 ∧ nm.length ≤ 8 ∧ ∀ e ∈ es, e.2.a ∈ nm ∧ e.2.b ∈ nm) ∧
    ∀ D H' p, SmT (T12 K) H H' → H D = none → H' D = some (.lst ((srt (nmF [g0.a, g0.b] (pg ((bhd es n g0).map (·.2)) p))).map V.str)) → TabOk H' (T12 K) lp12 q12 → Stb (dk ((bhd es n g0).map (·.2))) ((bhd es n g0).map (·.2)).length p → Q (.ref D) H'
  | _ => False
theorem sc_reached : FnScope ["kept", "number", "names", "played"] ["kept", "number"] (defScope s_reached) := ⟨rfl, rfl, rfl, by decide +kernel, rfl, by decide +kernel, by decide +kernel⟩
theorem ok_reached (d : Dfn K mg "reached" s_reached ["kept", "number"]) (er : Errs K mg c_Ledger c_NoTable c_Rule) (n_sorted : mg "sorted" = none) (n_set : mg "set" = none) (n_list : mg "list" = none)  (c_behind : Cal P w K mg base "behind" ["kept", "number"] 4 (sp_behind K ns)) : Cal P w K mg base "reached" ["kept", "number"] 5 (sp_reached K ns) := by
  refine d.cal (k := 4) sc_reached (fun vs H Q E h => ?_) (fun f cdv A outer s H vs Q E hr h => ?_)
  · match vs, h with
    | [.ref A, .int n], _ => rfl
  · match vs, h with
    | [.ref A, .int n], ⟨es, g0, nm, ⟨⟨kvs, eA, al⟩, hi, l40, hn, tk, l8, sub⟩, k⟩ =>
      refine ⟨_, (@pss_cons _ _ _ _ _ (@ps_set _ _ (2) _ _ _ _ sc_reached.nd rfl (by first | exact Or.inl rfl | exact Or.inr rfl) (@pe_callTy _ _ _ _ _ _ _ _ _ c_listN (by rfl) n_list (by decide +kernel) (@pa_cons _ _ _ _ _ (@pe_slice _ _ _ _ _ _ _ _ _ _ sl_tup (@pe_dget _ _ _ _ _ _ (@u1 _ _ hr.units) (dv 0) (dv 1) (fun _ _ => rfl)) (po_some pe_int) (po_some pe_int)) pa_nil (by rfl)) (by decide) (by decide) (by rfl) (by rfl)) (by rfl) (by first | exact .inl rfl | exact .inr rfl | assumption)) (@pss_cons _ _ _ _ _ (@ps_for _ _ _ _ _ _ _ _ PassesOwn.never rfl (@pi_list _ _ _ _ (@e_call _ _ _ _ _ _ _ _ _ _ _ c_behind hr (by decide) (by rfl) (@pa_cons _ _ _ _ _ (dv 0) (@pa_cons _ _ _ _ _ (dv 1) pa_nil (by rfl)) (by rfl)) (by decide) (by rfl) (by rfl))) (@pg_name _ _ (3) _ sc_reached.nd rfl (by first | exact Or.inl rfl | exact Or.inr rfl) (by first | exact .inl rfl | exact .inr rfl | assumption)) (@pss_one _ _ _ (@s_if _ _ _ _ _ _ _ _ (@L2.PW.pt _ _ _ (@w_or _ _ _ _ _ _ _ (@t_cmp _ _ _ _ _ _ _ _ o_in (@pe_ix _ _ _ _ _ _ _ i_tup (dv 3) pe_int (fun _ _ => rfl)) (dv 2) (by with_unfolding_all rfl)) (@pw_or1 _ _ _ _ (@t_cmp _ _ _ _ _ _ _ _ o_in (@pe_ix _ _ _ _ _ _ _ i_tup (dv 3) pe_int (fun _ _ => rfl)) (dv 2) (by with_unfolding_all rfl))))) (@pss_one _ _ _ (@ps_expr _ _ _ _ (@pe_bm _ _ _ _ _ _ _ _ _ _ _ _ PySem.F.plainAttrs_list PySem.F.slot_list_extend PySem.F.type_list_extend mt_extT (dv 2) (@pa_cons _ _ _ _ _ (@pe_slice _ _ _ _ _ _ _ _ _ _ sl_tup (dv 3) (po_some pe_int) (po_some pe_int)) pa_nil (by rfl)) (by rfl) (by rfl) (by rfl) (by rfl) (by rfl)) (by rfl))) pss_nil)) (by intro _; rfl)) (@pss_one _ _ _ (@ps_ret _ _ _ _ (@e_sset _ _ _ _ _ _ _ (by rfl) n_sorted (by rfl) n_set (dv 2) (by rfl) (by rfl) (by rfl)))))), ?_⟩
      obtain ⟨v0, hv0, p0, rfl, hp0⟩ := en_val al hi hn
      have g1 : DGet H A (.int n) (valV kvs (Sum.inl n)) := .inl ⟨kvs, Sum.inl _, .inl eA, rfl, rfl⟩
      rw [hv0] at g1
      refine ⟨A, _, rfl, g1, _, rfl, _, rfl, p0, _, rfl, SqT.of hp0, (by show ¬ (HT.sIx 5 0 (some 1) = 0 ∧ HT.sIx 5 5 (some 3) = 5); decide), fun t ht => ?_⟩
      rw [show cutV [V.int g0.d, V.str g0.a, V.str g0.b, V.int g0.h, V.int g0.s] (some 1) (some 3) = [V.str g0.a, V.str g0.b] from rfl]
      have s1 : Same H (upd H t (.tup [.str g0.a, .str g0.b])) := same_upd ht
      have e1 : upd H t (.tup [.str g0.a, .str g0.b]) t = some (.tup [.str g0.a, .str g0.b]) := upd_same
      generalize upd H t (.tup [.str g0.a, .str g0.b]) = H1 at s1 e1
      refine ⟨_, .inr (SqT.of e1), fun N hN => ?_⟩
      have s2 : Same H1 (upd H1 N (.lst [.str g0.a, .str g0.b])) := same_upd hN
      have e2 : upd H1 N (.lst [.str g0.a, .str g0.b]) N = some (.lst ([g0.a, g0.b].map V.str)) := upd_same
      have hN0 : H N = none := none_back s1 hN
      generalize upd H1 N (.lst [.str g0.a, .str g0.b]) = H2 at s2 e2
      have s02 := s1.trans s2
      refine ⟨es, g0, ⟨⟨kvs, s02 _ _ eA, al.imp fun kv e r => en_up kv e _ _ (kt_of s02) r⟩, hi, l40, hn, tk.up s02⟩, fun B vs H3 p sm nB eB tk3 stb aB => ?_⟩
      obtain ⟨ps, tt, _⟩ := tk.up s02
      have nNT : N ≠ T12 K := fun z => by rw [z, tt] at e2; cases e2
      have e3 := sm _ _ nNT e2
      have nBN : B ≠ N := fun z => by rw [z, e2] at nB; cases nB
      have hz : ∀ b o, b ≠ T12 K → H b = some o → H3 b = some o := fun b o ne e => sm b o ne (s02 b o e)
      have lb : (bhd es n g0).length ≤ es.length := List.length_filter_le _ _
      have lp : (pg ((bhd es n g0).map (·.2)) p).length ≤ 40 := by
        have := stb.1
        have : (pg ((bhd es n g0).map (·.2)) p).length ≤ p.length := List.length_filterMap_le ..
        rw [List.length_map] at *
        omega
      have subG : ∀ g ∈ pg ((bhd es n g0).map (·.2)) p, g.a ∈ nm ∧ g.b ∈ nm := fun g hg => by
        obtain ⟨e, he, rfl⟩ := List.mem_map.mp (pg_mem hg)
        exact sub e (List.mem_filter.mp he).1
      have k := k (p := p)
      generalize hG : pg ((bhd es n g0).map (·.2)) p = G at aB lp subG k
      have lv := aB.len
      refine ⟨B, rfl, ⟨_, SqL.of eB⟩, for_list (K := K) (a := B) (xs := vs) (fun i σ H' => ∃ o3 : Option V, σ = [some (.ref A), some (.int n), some (.ref N), o3] ∧ (∀ b o, b ≠ N → H3 b = some o → H' b = some o) ∧ TabOk H' (T12 K) lp12 q12 ∧ H' N = some (.lst ((nmF [g0.a, g0.b] (G.take i)).map V.str))) ⟨none, rfl, fun b o _ e => e, tk3, e3⟩ (fun i σ H' _ ⟨_, _, s, _⟩ => SqL.of (s _ _ nBN eB)) ?_ ?_⟩
      · rintro i v σ H4 hv ⟨o3, rfl, s4, tk4, e4⟩
        obtain ⟨g, hg, pg', rfl, hpg⟩ := aB.get hv
        have hpg4 := s4 _ _ (fun z => by rw [z, e3] at hpg; cases hpg) hpg
        have tk' : G.take (i + 1) = G.take i ++ [g] := by rw [List.take_add_one, hg]; rfl
        have ll : (nmF [g0.a, g0.b] (G.take i)).length ≤ 82 := by
          have := nmF_len (G.take i) [g0.a, g0.b]
          rw [List.length_take] at this
          have z : [g0.a, g0.b].length = 2 := rfl
          omega
        rw [tk', nmF_snoc]
        generalize nmF [g0.a, g0.b] (G.take i) = l at e4 ll
        have go : (g.a ∈ l ∨ g.b ∈ l) → ∀ t' : Addr, H4 t' = none → ∃ o3 : Option V, [some (V.ref A), some (V.int n), some (V.ref N), some (V.ref pg')] = [some (.ref A), some (.int n), some (.ref N), o3] ∧ (∀ b o, b ≠ N → H3 b = some o → upd (upd H4 t' (.tup [.str g.a, .str g.b])) N (.lst (l.map V.str ++ [.str g.a, .str g.b])) b = some o) ∧ TabOk (upd (upd H4 t' (.tup [.str g.a, .str g.b])) N (.lst (l.map V.str ++ [.str g.a, .str g.b]))) (T12 K) lp12 q12 ∧ upd (upd H4 t' (.tup [.str g.a, .str g.b])) N (.lst (l.map V.str ++ [.str g.a, .str g.b])) N = some (.lst ((if g.a ∈ l ∨ g.b ∈ l then l ++ [g.a, g.b] else l).map V.str)) := fun c t' ht' => by
          have ntN : t' ≠ N := fun z => by rw [z, e4] at ht'; cases ht'
          have s5 : Same H4 (upd H4 t' (.tup [.str g.a, .str g.b])) := same_upd ht'
          refine ⟨_, rfl, fun b o ne e => ?_, tab_sx (tk4.up s5) Sx.upd (.inl ⟨_, s5 _ _ e4⟩), ?_⟩
          · rw [upd_ne ne]
            exact s5 b o (s4 b o ne e)
          · rw [if_pos c, upd_same, List.map_append]
            rfl
        refine ⟨_, hpg4, _, .inl (SqL.of e4), rfl, flat_strs l, ?_⟩
        rw [inV_strs]
        refine ⟨fun h => ?_, fun h => ⟨_, hpg4, _, .inl (SqL.of e4), rfl, flat_strs l, ?_⟩⟩
        rotate_left
        · rw [inV_strs]
          refine ⟨fun h' => ?_, fun h' => ?_⟩
          rotate_left
          · have c : ¬ (g.a ∈ l ∨ g.b ∈ l) := fun z => z.elim (of_decide_eq_false h) (of_decide_eq_false h')
            rw [if_neg c]
            exact ⟨_, rfl, s4, tk4, e4⟩
          have c : g.a ∈ l ∨ g.b ∈ l := .inr (of_decide_eq_true h')
          refine ⟨.inl ⟨rfl, _, SqL.of e4⟩, _, rfl, _, rfl, pg', _, rfl, SqT.of hpg4, (by show ¬ (HT.sIx 5 0 (some 1) = 0 ∧ HT.sIx 5 5 (some 3) = 5); decide), fun t' ht' => ?_⟩
          rw [show cutV [V.int g.d, V.str g.a, V.str g.b, V.int g.h, V.int g.s] (some 1) (some 3) = [V.str g.a, V.str g.b] from rfl]
          have s5 : Same H4 (upd H4 t' (.tup [.str g.a, .str g.b])) := same_upd ht'
          exact ⟨N, t', _, _, rfl, rfl, s5 _ _ e4, upd_same, by rw [List.length_map]; exact Nat.le_trans (show l.length + 2 ≤ 84 by omega) (by decide), go c t' ht'⟩
        have c : g.a ∈ l ∨ g.b ∈ l := .inl (of_decide_eq_true h)
        refine ⟨fun _ => ?_, fun h => nb h⟩
        refine ⟨.inl ⟨rfl, _, SqL.of e4⟩, _, rfl, _, rfl, pg', _, rfl, SqT.of hpg4, (by show ¬ (HT.sIx 5 0 (some 1) = 0 ∧ HT.sIx 5 5 (some 3) = 5); decide), fun t' ht' => ?_⟩
        rw [show cutV [V.int g.d, V.str g.a, V.str g.b, V.int g.h, V.int g.s] (some 1) (some 3) = [V.str g.a, V.str g.b] from rfl]
        have s5 : Same H4 (upd H4 t' (.tup [.str g.a, .str g.b])) := same_upd ht'
        exact ⟨N, t', _, _, rfl, rfl, s5 _ _ e4, upd_same, by rw [List.length_map]; exact Nat.le_trans (show l.length + 2 ≤ 84 by omega) (by decide), go c t' ht'⟩
      rintro σ H4 ⟨o3, rfl, s4, tk4, e4⟩
      rw [lv, List.take_length] at e4
      have l82 : (nmF [g0.a, g0.b] G).length ≤ 82 := by
        have := nmF_len G [g0.a, g0.b]
        have z : [g0.a, g0.b].length = 2 := rfl
        omega
      have sN : ∀ x ∈ nmF [g0.a, g0.b] G, x ∈ nm := nmF_sub (fun x hx => by
        obtain ⟨h1, h2⟩ := sub _ hn
        rcases List.mem_cons.mp hx with rfl | hx
        · exact h1
        · rw [List.mem_singleton.mp hx]
          exact h2) subG
      have l64 : (srt (nmF [g0.a, g0.b] G)).length ≤ nm.length := nd_len (inc_nodup (inc_srt _)) fun x hx => sN x (mem_srt.mp hx)
      refine ⟨_, SqL.of e4, by omega, by omega, fun D hD => ?_⟩
      have s5 : Same H4 (upd H4 D (.lst ((srt (nmF [g0.a, g0.b] G)).map V.str))) := same_upd hD
      have hs : SmT (T12 K) H (upd H4 D (.lst ((srt (nmF [g0.a, g0.b] G)).map V.str))) := fun b o ne e => s5 b o (s4 b o (fun z => by rw [z, hN0] at e; cases e) (hz b o ne e))
      refine k D _ hs ?_ upd_same (tk4.up s5) stb
      cases c : H D with
      | none => rfl
      | some o =>
        exfalso
        by_cases z : D = T12 K
        · obtain ⟨ps4, t4, _⟩ := tk4
          rw [← z, hD] at t4
          cases t4
        · rw [s4 D o (fun z => by rw [z, hN0] at c; cases c) (hz D o z c)] at hD
          cases hD
def sp_check_size (K : PySem.W.Frag) (ns : List Int) : Sp := fun vs H Q _ => match vs with
  | [.ref L] => ∃ gs, (Bk K H L gs ∧ gs.length ≤ 40 ∧ (plr gs).length ≤ 8) ∧ ∀ H', Same H H' → Q .non H'
  | _ => False
theorem sc_check_size : FnScope ["games"] ["games"] (defScope s_check_size) := ⟨rfl, rfl, rfl, by decide +kernel, rfl, by decide +kernel, by decide +kernel⟩
theorem ok_check_size (d : Dfn K mg "check_size" s_check_size ["games"]) (er : Errs K mg c_Ledger c_NoTable c_Rule) (n_len : mg "len" = none) (v_MOST_PLAYERS : Cst mg "MOST_PLAYERS" (.int (8))) (v_MOST_GAMES : Cst mg "MOST_GAMES" (.int (40))) (c_players : Cal P w K mg base "players" ["games"] 1 (sp_players K ns)) : Cal P w K mg base "check_size" ["games"] 2 (sp_check_size K ns) := by
  refine d.cal (k := 1) sc_check_size (fun vs H Q E h => ?_) (fun f cdv A outer s H vs Q E hr h => ?_)
  · match vs, h with
    | [.ref L], _ => rfl
  · match vs, h with
    | [.ref L], ⟨gs, ⟨bk, l40, l8⟩, k⟩ =>
      refine ⟨_, (@pss_cons _ _ _ _ _ (@s_if _ _ _ _ _ _ _ _ (@t_cmp _ _ _ _ _ _ _ _ o_gt (@pe_callB _ _ _ _ _ _ _ _ _ c_len (by rfl) n_len (by decide +kernel) (@pa_cons _ _ _ _ _ (dv 0) pa_nil (by rfl)) (by decide) (by decide) (by rfl) (by rfl)) (g_cst v_MOST_GAMES (by rfl)) (@nomark _ _ (by decide) (by decide))) (@pss_one _ _ _ ps_never) pss_nil) (@pss_one _ _ _ (@s_if _ _ _ _ _ _ _ _ (@t_cmp _ _ _ _ _ _ _ _ o_gt (@pe_callB _ _ _ _ _ _ _ _ _ c_len (by rfl) n_len (by decide +kernel) (@pa_cons _ _ _ _ _ (@e_call _ _ _ _ _ _ _ _ _ _ _ c_players hr (by decide) (by rfl) (@pa_cons _ _ _ _ _ (dv 0) pa_nil (by rfl)) (by decide) (by rfl) (by rfl)) pa_nil (by rfl)) (by decide) (by decide) (by rfl) (by rfl)) (g_cst v_MOST_PLAYERS (by rfl)) (@nomark _ _ (by decide) (by decide))) (@pss_one _ _ _ ps_never) pss_nil))), ?_⟩
      obtain ⟨vs, hx, hm, hl⟩ := id bk
      have lv := hm.len
      refine ⟨_, .inl hx, ⟨fun h => absurd (of_decide_eq_true h) (by omega), fun _ => ⟨gs, ⟨bk, by omega⟩, fun D H1 s1 n1 e1 => ⟨_, .inl (SqL.of e1), ⟨fun h => absurd (of_decide_eq_true h) (by rw [List.length_map]; omega), fun _ => k H1 s1⟩⟩⟩⟩⟩
structure LFd (fs : List (Str × V)) (A : Addr) (last : Int) : Prop where
  ke : fs.lookup ("kept" : Str) = some (.ref A)
  la : fs.lookup ("last" : Str) = some (.int last)
  pu : fs.lookup ("put" : Str) = none
  ta : fs.lookup ("take" : Str) = none
  ga : fs.lookup ("games" : Str) = none
  len : fs.length ≤ 100
def LgAt (K : PySem.W.Frag) (H : Hp) (L A : Addr) (es : List En) (last : Int) : Prop := ∃ C dx fs, H L = some (.ins C dx fs) ∧ PySem.W.nsIn K mainGlobals "Ledger" = some (some (.ref C)) ∧ LFd fs A last ∧ KpAt H A es
structure EsOk (nm : List Str) (es : List En) (last : Int) : Prop where
  inc : EInc es
  le : ∀ e ∈ es, e.1 ≤ last
  mem : ∀ e ∈ es, e.2.a ∈ nm ∧ e.2.b ∈ nm
def Fr3 (L A T : Addr) (H H' : Hp) : Prop := ∀ b o, b ≠ L → b ≠ A → b ≠ T → H b = some o → H' b = some o
theorem putF_len {f : Str} {v : V} : ∀ {fs : List (Str × V)} {u : V}, fs.lookup f = some u → (putF f v fs).length = fs.length
  | [], _, h => by cases h
  | (g, w) :: fs, u, h => by
    by_cases c : f = g
    · subst c
      unfold putF
      rw [if_pos rfl]
      rfl
    · have h : fs.lookup f = some u := by
        rw [List.lookup_cons, show (f == g) = false from beq_eq_false_iff_ne.mpr c] at h
        exact h
      unfold putF
      rw [if_neg fun z => c z.symm]
      exact congrArg (· + 1) (putF_len h)
theorem LFd.put {fs : List (Str × V)} {A : Addr} {last m : Int} (h : LFd fs A last) : LFd (putF "last" (.int m) fs) A m := by
  have := putF_len (v := .int m) h.la
  have := h.len
  exact ⟨lk_miss (by decide +kernel) h.ke, lk_hit, lk_miss (by decide +kernel) h.pu, lk_miss (by decide +kernel) h.ta, lk_miss (by decide +kernel) h.ga, by omega⟩
theorem tab_ins {H H' : Hp} {P x C dx : Addr} {fs : List (Str × V)} {pos : Pos} {q : Str} (h : TabOk H P pos q) (s : Sx x H H') (hx : H x = some (.ins C dx fs)) : TabOk H' P pos q := by
  obtain ⟨ps, h1, h2, h3⟩ := h
  refine ⟨ps, s _ _ (fun z => by rw [z, hx] at h1; cases h1) h1, h2, h3.imp id ?_⟩
  rintro ⟨c, e1, e2⟩
  exact ⟨c, e1, s _ _ (fun z => by rw [z, hx] at e2; cases e2) e2⟩
def sp_Ledger_put (K : PySem.W.Frag) (ns : List Int) : Sp := fun vs H Q _ => match vs with
  | [.ref L, v] => ∃ (A : Addr) (es : List En) (last : Int) (g : Gm) (nm : List Str), (LgAt K H L A es last ∧ EsOk nm es last ∧ es.length < 40 ∧ nm.length ≤ 8 ∧ GmAt H v g ∧ g.a ∈ nm ∧ g.b ∈ nm ∧ TabOk H (T12 K) lp12 q12) ∧
    ∀ r D H' p, Fr3 L A (T12 K) H H' → H D = none → H' r = some (.tup [.int (last + 1), .ref D]) → LgAt K H' L A (es ++ [(last + 1, g)]) (last + 1) → TabOk H' (T12 K) lp12 q12 →
      H' D = some (.lst ((srt (nmF [g.a, g.b] (pg ((bhd (es ++ [(last + 1, g)]) (last + 1) g).map (·.2)) p))).map V.str)) → Stb (dk ((bhd (es ++ [(last + 1, g)]) (last + 1) g).map (·.2))) ((bhd (es ++ [(last + 1, g)]) (last + 1) g).map (·.2)).length p → Q (.ref r) H'
  | _ => False
theorem sc_Ledger_put : FnScope ["self", "played"] ["self", "played"] (defScope s_Ledger_put) := ⟨rfl, rfl, rfl, by decide +kernel, rfl, by decide +kernel, by decide +kernel⟩
theorem ok_Ledger_put (d : DfnM K [c_Ledger] [] "put" "Ledger.put" s_Ledger_put ["self", "played"]) (er : Errs K mg c_Ledger c_NoTable c_Rule) (n_list : mg "list" = none)  (c_reached : Cal P w K mg base "reached" ["kept", "number"] 5 (sp_reached K ns)) (c_check_size : Cal P w K mg base "check_size" ["games"] 2 (sp_check_size K ns)) : CalM P w K mg base [c_Ledger] [] "put" ["self", "played"] 6 (sp_Ledger_put K ns) := by
  refine d.cal (k := 5) sc_Ledger_put (fun vs H Q E h => ?_) (fun f cdv A outer s H vs Q E hr h => ?_)
  · match vs, h with
    | [.ref L, v], _ => rfl
  · match vs, h with
    | [.ref L, v], ⟨A, es, last, g, nm, ⟨⟨C, dx, fs, eL, hC, fd, kvs, eA, al⟩, ok, l40, l8, hg, ga, gb, tk⟩, k⟩ =>
      refine ⟨_, (@pss_cons _ _ _ _ _ (@ps_expr _ _ _ _ (@e_call _ _ _ _ _ _ _ _ _ _ _ c_check_size hr (by decide) (by rfl) (@pa_cons _ _ _ _ _ (@pe_op _ _ _ _ _ _ _ _ o_catL (@pe_lvals _ _ _ _ _ _ _ (by rfl) n_list (@pe_fld _ _ _ _ _ (dv 0) (by rfl)) rfl (by rfl) (by rfl)) (@e_lst _ _ _ _ (@pa_cons _ _ _ _ _ (dv 1) pa_nil (by rfl)))) pa_nil (by rfl)) (by decide) (by rfl) (by rfl)) (by rfl)) (@pss_cons _ _ _ _ _ (@ps_fld _ _ _ _ _ _ _ _ (dv 0) (@pe_op _ _ _ _ _ _ _ _ o_add (@pe_fld _ _ _ _ _ (dv 0) (by rfl)) pe_int) rfl) (@pss_cons _ _ _ _ _ (@ps_dput _ _ _ _ _ _ _ _ _ (@u1 _ _ hr.units) (@pe_fld _ _ _ _ _ (dv 0) (by rfl)) (@pe_fld _ _ _ _ _ (dv 0) (by rfl)) (dv 1) rfl) (@pss_one _ _ _ (@ps_ret _ _ _ _ (@e_tup _ _ _ _ _ (@pa_cons _ _ _ _ _ (@pe_fld _ _ _ _ _ (dv 0) (by rfl)) (@pa_cons _ _ _ _ _ (@e_call _ _ _ _ _ _ _ _ _ _ _ c_reached hr (by decide) (by rfl) (@pa_cons _ _ _ _ _ (@pe_fld _ _ _ _ _ (dv 0) (by rfl)) (@pa_cons _ _ _ _ _ (@pe_fld _ _ _ _ _ (dv 0) (by rfl)) pa_nil (by rfl)) (by rfl)) (by decide) (by rfl) (by rfl)) pa_nil (by rfl)) (by rfl)))))))), ?_⟩
      obtain ⟨pv, rfl, hpv⟩ := id hg
      have cl : Cls K C ∧ NoAttr K C "kept" ∧ NoAttr K C "last" := ns_inj' er.y_Ledger hC ▸ ⟨er.l_Ledger, er.na_Ledger_kept, er.na_Ledger_last⟩
      have nLA : A ≠ L := fun z => by rw [z, eL] at eA; cases eA
      refine ⟨L, C, dx, fs, _, rfl, eL, cl.1, cl.2.1, fd.ke, A, kvs, rfl, .inl eA, fun D0 H1 s1 n1 e1 => fun D1 H2 s2 e2 => ⟨_, _, s2 _ _ e1, e2, ?_, fun P H3 s3 e3 => ?_⟩⟩
      · rw [List.length_map, al.len]
        show es.length + 1 ≤ 1000
        omega
      have s13 := s1.trans (s2.trans s3)
      have aP : All2 (GmAt H3) (kvs.map (·.2) ++ [.ref pv]) (es.map (·.2) ++ [g]) := (en_vals (al.imp fun kv e r => en_up kv e _ _ (kt_of s13) r)).snoc ⟨pv, rfl, s13 _ _ hpv⟩
      have lg : (es.map (·.2) ++ [g]).length = es.length + 1 := by rw [List.length_append, List.length_map]; rfl
      have memg : ∀ x ∈ es.map (·.2) ++ [g], x.a ∈ nm ∧ x.b ∈ nm := fun x hx => by
        rcases List.mem_append.mp hx with h | h
        · obtain ⟨e, he, rfl⟩ := List.mem_map.mp h
          exact ok.mem e he
        · rw [List.mem_singleton.mp h]
          exact ⟨ga, gb⟩
      refine ⟨_, ⟨⟨_, SqL.of e3, aP, by omega⟩, by omega, Nat.le_trans (plr_len memg) l8⟩, fun H4 s4 => ?_⟩
      have s04 := s13.trans s4
      have eL4 := s04 _ _ eL
      have eA4 := s04 _ _ eA
      refine ⟨L, C, dx, fs, _, rfl, eL4, cl.1, cl.2.2, fd.la, L, C, dx, fs, rfl, eL4, cl.1, cl.2.2, by have := fd.len; omega, ?_⟩
      have x5 : Sx L H4 (upd H4 L (.ins C dx (putF "last" (.int (last + 1)) fs))) := Sx.upd
      have eL5 : upd H4 L (.ins C dx (putF "last" (.int (last + 1)) fs)) L = some (.ins C dx (putF "last" (.int (last + 1)) fs)) := upd_same
      have fd5 := fd.put (m := last + 1)
      have kt5 : Kt H4 (upd H4 L (.ins C dx (putF "last" (.int (last + 1)) fs))) := x5.kt eL4
      have tk5 : TabOk (upd H4 L (.ins C dx (putF "last" (.int (last + 1)) fs))) (T12 K) lp12 q12 := tab_ins (tk.up s04) x5 eL4
      generalize upd H4 L (.ins C dx (putF "last" (.int (last + 1)) fs)) = H5 at x5 eL5 kt5 tk5
      have eA5 := x5 _ _ nLA eA4
      have lk : kvs.length < 41 := by rw [al.len]; omega
      refine ⟨L, C, dx, _, _, rfl, eL5, cl.1, cl.2.1, fd5.ke, L, C, dx, _, _, rfl, eL5, cl.1, cl.2.2, fd5.la, A, _, rfl, DPut.k (k := Sum.inl (last + 1)) eA5 (Nat.lt_of_lt_of_le lk (by decide)), ?_⟩
      have nn : valV kvs (Sum.inl (last + 1)) = none := en_none al fun e he z => by
        have := ok.le e he
        omega
      rw [putK_new _ nn]
      have x6 : Sx A H5 (upd H5 A (.dK (kvs ++ [(Sum.inl (last + 1), .ref pv)]))) := Sx.upd
      have eA6 : upd H5 A (.dK (kvs ++ [(Sum.inl (last + 1), .ref pv)])) A = some (.dK (kvs ++ [(Sum.inl (last + 1), .ref pv)])) := upd_same
      have kt6 : Kt H5 (upd H5 A (.dK (kvs ++ [(Sum.inl (last + 1), .ref pv)]))) := x6.kt' eA5
      have tk6 : TabOk (upd H5 A (.dK (kvs ++ [(Sum.inl (last + 1), .ref pv)]))) (T12 K) lp12 q12 := tab_sx tk5 x6 (.inr ⟨_, eA5⟩)
      have eL6 := x6 _ _ (Ne.symm nLA) eL5
      generalize upd H5 A (.dK (kvs ++ [(Sum.inl (last + 1), .ref pv)])) = H6 at x6 eA6 kt6 tk6 eL6
      have kt06 : Kt H H6 := ((kt_of s04).trans kt5).trans kt6
      have al6 : All2 (EnAt H6) (kvs ++ [(Sum.inl (last + 1), .ref pv)]) (es ++ [(last + 1, g)]) := (al.imp fun kv e r => en_up kv e _ _ kt06 r).snoc ⟨rfl, pv, rfl, kt06 _ _ hpv⟩
      have inc6 : EInc (es ++ [(last + 1, g)]) := List.pairwise_append.mpr ⟨ok.inc, List.pairwise_singleton .., fun a ha b hb => by
        rw [List.mem_singleton.mp hb]
        have := ok.le a ha
        show a.1 < last + 1
        omega⟩
      have fr6 : ∀ b o, b ≠ L → b ≠ A → H b = some o → H6 b = some o := fun b o n1 n2 e => x6 b o n2 (x5 b o n1 (s04 b o e))
      refine ⟨L, C, dx, _, _, rfl, eL6, cl.1, cl.2.2, fd5.la, L, C, dx, _, _, rfl, eL6, cl.1, cl.2.1, fd5.ke, L, C, dx, _, _, rfl, eL6, cl.1, cl.2.2, fd5.la, ?_⟩
      refine ⟨es ++ [(last + 1, g)], g, nm, ⟨⟨_, eA6, al6⟩, inc6, by rw [List.length_append]; show es.length + 1 ≤ 40; omega, List.mem_append_right _ (List.mem_singleton.mpr rfl), tk6, l8, fun e he => ?_⟩, fun D H7 p sm nD eD tk7 stb => fun R H8 s8 e8 => ?_⟩
      · rcases List.mem_append.mp he with h | h
        · exact ok.mem e h
        · rw [List.mem_singleton.mp h]
          exact ⟨ga, gb⟩
      obtain ⟨ps, tt, _⟩ := tk6
      have nLT : L ≠ T12 K := fun z => by rw [z, tt] at eL6; cases eL6
      have nAT : A ≠ T12 K := fun z => by rw [z, tt] at eA6; cases eA6
      have kt7 : Kt H6 H7 := fun q xs e => sm q _ (fun z => by rw [z, tt] at e; cases e) e
      have kt68 := kt7.trans (kt_of s8)
      refine k R D H8 p (fun b o n1 n2 n3 e => s8 b o (sm b o n3 (fr6 b o n1 n2 e))) ?_ e8 ⟨C, dx, _, s8 _ _ (sm _ _ nLT eL6), hC, fd5, _, s8 _ _ (sm _ _ nAT eA6), al6.imp fun kv e r => en_up kv e _ _ kt68 r⟩ (tk7.up s8) (s8 _ _ eD) stb
      cases c : H D with
      | none => rfl
      | some o =>
        exfalso
        by_cases z1 : D = L
        · rw [z1, eL6] at nD
          cases nD
        · by_cases z2 : D = A
          · rw [z2, eA6] at nD
            cases nD
          · rw [fr6 D o z1 z2 c] at nD
            cases nD
abbrev Rw := Int × Int × Int
def wo (es : List En) (n : Int) : List En := es.filter fun e => decide (e.1 ≠ n)
def sp_Ledger_take (K : PySem.W.Frag) (ns : List Int) : Sp := fun vs H Q _ => match vs with
  | [.ref L, .int n] => ∃ (A : Addr) (es : List En) (last : Int) (g : Gm) (nm : List Str), (LgAt K H L A es last ∧ EsOk nm es last ∧ es.length ≤ 40 ∧ nm.length ≤ 8 ∧ (n, g) ∈ es ∧ TabOk H (T12 K) lp12 q12) ∧
    ∀ D H' p, Fr3 L A (T12 K) H H' → H D = none → LgAt K H' L A (wo es n) last → TabOk H' (T12 K) lp12 q12 →
      H' D = some (.lst ((srt (nmF [g.a, g.b] (pg ((bhd es n g).map (·.2)) p))).map V.str)) → Stb (dk ((bhd es n g).map (·.2))) ((bhd es n g).map (·.2)).length p → Q (.ref D) H'
  | _ => False
theorem sc_Ledger_take : FnScope ["self", "number", "found"] ["self", "number"] (defScope s_Ledger_take) := ⟨rfl, rfl, rfl, by decide +kernel, rfl, by decide +kernel, by decide +kernel⟩
theorem ok_Ledger_take (d : DfnM K [c_Ledger] [] "take" "Ledger.take" s_Ledger_take ["self", "number"]) (er : Errs K mg c_Ledger c_NoTable c_Rule)   (c_reached : Cal P w K mg base "reached" ["kept", "number"] 5 (sp_reached K ns)) : CalM P w K mg base [c_Ledger] [] "take" ["self", "number"] 6 (sp_Ledger_take K ns) := by
  refine d.cal (k := 5) sc_Ledger_take (fun vs H Q E h => ?_) (fun f cdv A outer s H vs Q E hr h => ?_)
  · match vs, h with
    | [.ref L, .int n], _ => rfl
  · match vs, h with
    | [.ref L, .int n], ⟨A, es, last, g, nm, ⟨⟨C, dx, fs, eL, hC, fd, kvs, eA, al⟩, ok, l40, l8, hn, tk⟩, k⟩ =>
      refine ⟨_, (@pss_cons _ _ _ _ _ (@s_if _ _ _ _ _ _ _ _ (@t_dninK _ _ _ _ _ _ (@u1 _ _ hr.units) (dv 1) (@pe_fld _ _ _ _ _ (dv 0) (by rfl)) (by with_unfolding_all rfl)) (@pss_one _ _ _ ps_never) pss_nil) (@pss_cons _ _ _ _ _ (@ps_set _ _ (2) _ _ _ _ sc_Ledger_take.nd rfl (by first | exact Or.inl rfl | exact Or.inr rfl) (@e_call _ _ _ _ _ _ _ _ _ _ _ c_reached hr (by decide) (by rfl) (@pa_cons _ _ _ _ _ (@pe_fld _ _ _ _ _ (dv 0) (by rfl)) (@pa_cons _ _ _ _ _ (dv 1) pa_nil (by rfl)) (by rfl)) (by decide) (by rfl) (by rfl)) (by rfl) (by first | exact .inl rfl | exact .inr rfl | assumption)) (@pss_cons _ _ _ _ _ (@ps_expr _ _ _ _ (@pe_dpop1 _ _ _ _ _ _ _ (@pe_fld _ _ _ _ _ (dv 0) (by rfl)) (dv 1) ⟨rfl, rfl, rfl, rfl⟩) (by rfl)) (@pss_one _ _ _ (@ps_ret _ _ _ _ (dv 2)))))), ?_⟩
      have cl : Cls K C ∧ NoAttr K C "kept" := ns_inj' er.y_Ledger hC ▸ ⟨er.l_Ledger, er.na_Ledger_kept⟩
      have nLA : A ≠ L := fun z => by rw [z, eL] at eA; cases eA
      obtain ⟨v0, hv0, _⟩ := en_val al ok.inc hn
      have g1 : DGet H A (.int n) (valV kvs (Sum.inl n)) := .inl ⟨kvs, Sum.inl _, .inl eA, rfl, rfl⟩
      rw [hv0] at g1
      refine ⟨L, C, dx, fs, _, rfl, eL, cl.1, cl.2, fd.ke, A, _, rfl, g1, ⟨fun h => nb h, fun _ => ?_⟩⟩
      refine ⟨L, C, dx, fs, _, rfl, eL, cl.1, cl.2, fd.ke, es, g, nm, ⟨⟨kvs, eA, al⟩, ok.inc, l40, hn, tk, l8, ok.mem⟩, fun D H1 p sm nD eD tk1 stb => ?_⟩
      obtain ⟨ps, tt, _⟩ := id tk
      have nLT : L ≠ T12 K := fun z => by rw [z, tt] at eL; cases eL
      have nAT : A ≠ T12 K := fun z => by rw [z, tt] at eA; cases eA
      have eL1 := sm _ _ nLT eL
      have eA1 := sm _ _ nAT eA
      have kt1 : Kt H H1 := fun q xs e => sm q _ (fun z => by rw [z, tt] at e; cases e) e
      refine ⟨L, C, dx, fs, _, rfl, eL1, cl.1, cl.2, fd.ke, A, rfl, .inl ⟨kvs, .inl eA1⟩, kvs, Sum.inl n, v0, eA1, rfl, hv0, ?_⟩
      have x2 : Sx A H1 (upd H1 A (.dK (dropK kvs (Sum.inl n)))) := Sx.upd
      have eA2 : upd H1 A (.dK (dropK kvs (Sum.inl n))) A = some (.dK (dropK kvs (Sum.inl n))) := upd_same
      have kt2 : Kt H1 (upd H1 A (.dK (dropK kvs (Sum.inl n)))) := x2.kt' eA1
      have tk2 : TabOk (upd H1 A (.dK (dropK kvs (Sum.inl n)))) (T12 K) lp12 q12 := tab_sx tk1 x2 (.inr ⟨_, eA1⟩)
      have nDA : D ≠ A := fun z => by rw [z, eA] at nD; cases nD
      have eL2 := x2 _ _ (Ne.symm nLA) eL1
      have eD2 := x2 _ _ nDA eD
      generalize upd H1 A (.dK (dropK kvs (Sum.inl n))) = H2 at x2 eA2 kt2 tk2 eL2 eD2
      exact k D H2 p (fun b o n1 n2 n3 e => x2 b o n2 (sm b o n3 e)) nD ⟨C, dx, fs, eL2, hC, fd, _, eA2, en_drop (al.imp fun kv e r => en_up kv e _ _ (kt1.trans kt2) r) n⟩ tk2 eD2 stb
theorem mk_same {H : Hp} {x dx C : Addr} (hx : H x = none) (hd : H dx = none) (ne : dx ≠ x) : Same H (upd (upd H dx (.own x)) x (.ins C dx [])) := (same_upd hd).trans (same_upd (by rw [upd_ne (Ne.symm ne)]; exact hx))
def sp_Rule_twin (K : PySem.W.Frag) (ns : List Int) : Sp := fun vs H Q _ => match vs with
  | [.ref a] => ∃ (C dx : Addr) (fs : List (Str × V)) (T : Addr) (st fi : Int) (rows : List Rw) (vs : List V), (H a = some (.ins C dx fs) ∧ Kn K 0 C ∧ Fds fs 0 st fi 0 0 T ∧ H T = some (.lst vs) ∧ All2 (RoAt H) vs rows ∧ GoodT rows) ∧ ∀ r H', Same H H' → Q (.ref r) H'
  | _ => False
theorem sc_Rule_twin : FnScope ["self"] ["self"] (defScope s_Rule_twin) := ⟨rfl, rfl, rfl, by decide +kernel, rfl, by decide +kernel, by decide +kernel⟩
theorem ok_Rule_twin (d : DfnM K [c_Rule] [] "twin" "Rule.twin" s_Rule_twin ["self"]) (er : Errs K mg c_Ledger c_NoTable c_Rule)   (c_Rule___init__ : CalM P w K mg base [c_Rule] [] "__init__" ["self", "step", "first", "table"] 6 (sp_Rule___init__ K ns)) : CalM P w K mg base [c_Rule] [] "twin" ["self"] 8 (sp_Rule_twin K ns) := by
  refine d.cal (k := 7) sc_Rule_twin (fun vs H Q E h => ?_) (fun f cdv A outer s H vs Q E hr h => ?_)
  · match vs, h with
    | [.ref a], _ => rfl
  · match vs, h with
    | [.ref a], ⟨C, dx, fs, T, st, fi, rows, vs, ⟨e, kn, f, eT, al, good⟩, k⟩ =>
      refine ⟨_, (@pss_one _ _ _ (@ps_ret _ _ _ _ (e_make c_Rule___init__ (List.Mem.head _) er.m_Rule hr (by decide) (by rfl) er.b_Rule (@pa_cons _ _ _ _ _ (@pe_fld _ _ _ _ _ (dv 0) (by rfl)) (@pa_cons _ _ _ _ _ (@pe_fld _ _ _ _ _ (dv 0) (by rfl)) (@pa_cons _ _ _ _ _ (@pe_fld _ _ _ _ _ (dv 0) (by rfl)) pa_nil (by rfl)) (by rfl)) (by rfl))))), ?_⟩
      have hC : C = c_Rule := by
        rcases kn with ⟨_, y⟩ | ⟨z, _⟩ | ⟨z, _⟩ | ⟨z, _⟩
        · exact ns_inj' y er.y_Rule
        · exact absurd z (by decide)
        · exact absurd z (by decide)
        · exact absurd z (by decide)
      subst hC
      refine ⟨a, _, dx, fs, _, rfl, e, er.l_Rule, er.na_Rule_step, f.st, a, _, dx, fs, _, rfl, e, er.l_Rule, er.na_Rule_first, f.fi, a, _, dx, fs, _, rfl, e, er.l_Rule, er.na_Rule_table, f.tb, fun x dx' hx hd' ne => ?_⟩
      have s1 := mk_same (C := C) hx hd' ne
      have e1 : upd (upd H dx' (.own x)) x (.ins C dx' []) x = some (.ins C dx' []) := upd_same
      generalize upd (upd H dx' (.own x)) x (.ins C dx' []) = H1 at s1 e1
      refine ⟨_, dx', [], rows, vs, ⟨e1, er.l_Rule, er.na_Rule_step, er.na_Rule_first, er.na_Rule_table, by decide, s1 _ _ eT, al.imp fun v g r => ro_up v g _ _ (kt_of s1) r, good⟩, fun T' H2 s2 nT n1 eT' ex => ⟨rfl, ?_⟩⟩
      exact k x H2 fun b o eb => s2 b o (fun z => by rw [z, hx] at eb; cases eb) (s1 b o eb)
def sp_Ledger___init__ (K : PySem.W.Frag) (ns : List Int) : Sp := fun vs H Q _ => match vs with
  | [.ref L, .ref a] => ∃ (C0 dx0 C dx : Addr) (fs : List (Str × V)) (T : Addr) (st fi : Int) (rows : List Rw) (vs : List V), (H L = some (.ins C0 dx0 []) ∧ PySem.W.nsIn K mainGlobals "Ledger" = some (some (.ref C0)) ∧ H a = some (.ins C dx fs) ∧ Kn K 0 C ∧ Fds fs 0 st fi 0 0 T ∧ fs.lookup ("twin" : Str) = none ∧ H T = some (.lst vs) ∧ All2 (RoAt H) vs rows ∧ GoodT rows) ∧ ∀ A H', Sx L H H' → H A = none → LgAt K H' L A [] 0 → Q .non H'
  | _ => False
theorem sc_Ledger___init__ : FnScope ["self", "rule"] ["self", "rule"] (defScope s_Ledger___init__) := ⟨rfl, rfl, rfl, by decide +kernel, rfl, by decide +kernel, by decide +kernel⟩
theorem ok_Ledger___init__ (d : DfnM K [c_Ledger] [] "__init__" "Ledger.__init__" s_Ledger___init__ ["self", "rule"]) (er : Errs K mg c_Ledger c_NoTable c_Rule)   (c_Rule_twin : CalM P w K mg base [c_Rule] [] "twin" ["self"] 8 (sp_Rule_twin K ns)) : CalM P w K mg base [c_Ledger] [] "__init__" ["self", "rule"] 9 (sp_Ledger___init__ K ns) := by
  refine d.cal (k := 8) sc_Ledger___init__ (fun vs H Q E h => ?_) (fun f cdv A outer s H vs Q E hr h => ?_)
  · match vs, h with
    | [.ref L, .ref a], _ => rfl
  · match vs, h with
    | [.ref L, .ref a], ⟨C0, dx0, C, dx, fs, T, st, fi, rows, vs, ⟨eL, hC, e, kn, f, tw, eT, al, good⟩, k⟩ =>
      refine ⟨_, (@pss_cons _ _ _ _ _ (@ps_fld _ _ _ _ _ _ _ _ (dv 0) (e_methV0 (dv 1) (mv_cons c_Rule_twin (List.Mem.head _) er.l_Rule (by decide) mv_nil) hr) rfl) (@pss_cons _ _ _ _ _ (@ps_fld _ _ _ _ _ _ _ _ (dv 0) pe_dnewK rfl) (@pss_one _ _ _ (@ps_fld _ _ _ _ _ _ _ _ (dv 0) pe_int rfl)))), ?_⟩
      have hK : C = c_Rule := by
        rcases kn with ⟨_, y⟩ | ⟨z, _⟩ | ⟨z, _⟩ | ⟨z, _⟩
        · exact ns_inj' y er.y_Rule
        · exact absurd z (by decide)
        · exact absurd z (by decide)
        · exact absurd z (by decide)
      subst hK
      have cl : Cls K C0 ∧ NoAttr K C0 "rule" ∧ NoAttr K C0 "kept" ∧ NoAttr K C0 "last" := ns_inj' er.y_Ledger hC ▸ ⟨er.l_Ledger, er.na_Ledger_rule, er.na_Ledger_kept, er.na_Ledger_last⟩
      refine ⟨a, C, dx, fs, _, rfl, e, .head _, tw, C, dx, fs, T, st, fi, rows, vs, ⟨e, kn, f, eT, al, good⟩, fun r H1 s1 => ⟨L, C0, dx0, [], rfl, s1 _ _ eL, cl.1, cl.2.1, by decide, ?_⟩⟩
      have x2 : Sx L H (upd H1 L (.ins C0 dx0 (putF "rule" (.ref r) []))) := Sx.trans (Sx.of s1) Sx.upd
      have e2 : upd H1 L (.ins C0 dx0 (putF "rule" (.ref r) [])) L = some (.ins C0 dx0 (putF "rule" (.ref r) [])) := upd_same
      generalize upd H1 L (.ins C0 dx0 (putF "rule" (.ref r) [])) = H2 at x2 e2
      intro A hA
      have nAL : A ≠ L := fun z => by rw [z, e2] at hA; cases hA
      have s3 : Same H2 (upd H2 A (.dK [])) := same_upd hA
      have e3 : upd H2 A (.dK []) A = some (.dK []) := upd_same
      generalize upd H2 A (.dK []) = H3 at s3 e3
      have l1 := length_putF "rule" (.ref r) []
      have l2 := length_putF "kept" (.ref A) (putF "rule" (.ref r) [])
      have l3 := length_putF "last" (.int 0) (putF "kept" (.ref A) (putF "rule" (.ref r) []))
      have l0 : ([] : List (Str × V)).length = 0 := rfl
      refine ⟨L, C0, dx0, _, rfl, s3 _ _ e2, cl.1, cl.2.2.1, by omega, L, C0, dx0, _, rfl, upd_same, cl.1, cl.2.2.2, by omega, ?_⟩
      refine k A _ (x2.trans (Sx.trans (Sx.of s3) (Sx.trans Sx.upd Sx.upd))) ?_ ⟨C0, dx0, _, upd_same, hC, ⟨lk_miss (by decide +kernel) lk_hit, lk_hit, lk_miss (by decide +kernel) (lk_miss (by decide +kernel) (lk_miss (by decide +kernel) rfl)), lk_miss (by decide +kernel) (lk_miss (by decide +kernel) (lk_miss (by decide +kernel) rfl)), lk_miss (by decide +kernel) (lk_miss (by decide +kernel) (lk_miss (by decide +kernel) rfl)), by omega⟩, [], ?_, .nil⟩
      · cases c : H A with
        | none => rfl
        | some o =>
          rw [x2 A o nAL c] at hA
          cases hA
      · rw [upd_ne nAL, upd_ne nAL]
        exact e3
def sp_Ledger_games (K : PySem.W.Frag) (ns : List Int) : Sp := fun vs H Q _ => match vs with
  | [.ref L] => ∃ (A : Addr) (es : List En) (last : Int), (LgAt K H L A es last ∧ es.length ≤ 40 ∧ TabOk H (T12 K) lp12 q12) ∧
    ∀ D vs H' p, SmT (T12 K) H H' → H D = none → H' D = some (.lst vs) → TabOk H' (T12 K) lp12 q12 → Stb (dk (es.map (·.2))) (es.map (·.2)).length p → All2 (GmAt H') vs (pg (es.map (·.2)) p) → Q (.ref D) H'
  | _ => False
theorem sc_Ledger_games : FnScope ["self"] ["self"] (defScope s_Ledger_games) := ⟨rfl, rfl, rfl, by decide +kernel, rfl, by decide +kernel, by decide +kernel⟩
theorem ok_Ledger_games (d : DfnM K [c_Ledger] [] "games" "Ledger.games" s_Ledger_games ["self"]) (er : Errs K mg c_Ledger c_NoTable c_Rule) (n_list : mg "list" = none)  (c_in_order : Cal P w K mg base "in_order" ["games"] 3 (sp_in_order K ns)) : CalM P w K mg base [c_Ledger] [] "games" ["self"] 4 (sp_Ledger_games K ns) := by
  refine d.cal (k := 3) sc_Ledger_games (fun vs H Q E h => ?_) (fun f cdv A outer s H vs Q E hr h => ?_)
  · match vs, h with
    | [.ref L], _ => rfl
  · match vs, h with
    | [.ref L], ⟨A, es, last, ⟨⟨C, dx, fs, eL, hC, fd, kvs, eA, al⟩, l40, tk⟩, k⟩ =>
      refine ⟨_, (@pss_one _ _ _ (@ps_ret _ _ _ _ (@e_call _ _ _ _ _ _ _ _ _ _ _ c_in_order hr (by decide) (by rfl) (@pa_cons _ _ _ _ _ (@pe_lvals _ _ _ _ _ _ _ (by rfl) n_list (@pe_fld _ _ _ _ _ (dv 0) (by rfl)) rfl (by rfl) (by rfl)) pa_nil (by rfl)) (by decide) (by rfl) (by rfl)))), ?_⟩
      have cl : Cls K C ∧ NoAttr K C "kept" := ns_inj' er.y_Ledger hC ▸ ⟨er.l_Ledger, er.na_Ledger_kept⟩
      refine ⟨L, C, dx, fs, _, rfl, eL, cl.1, cl.2, fd.ke, A, kvs, rfl, .inl eA, fun D0 H1 s1 n1 e1 => ?_⟩
      have a1 := en_vals (al.imp fun kv e r => en_up kv e _ _ (kt_of s1) r)
      refine ⟨_, _, ⟨SqL.of e1, a1, by rw [List.length_map]; omega, tk.up s1⟩, fun D H2 p sm nD eD tk2 stb => ?_⟩
      obtain ⟨ps, tt, _⟩ := tk.up s1
      have kt2 : Kt H1 H2 := fun q xs e => sm q _ (fun z => by rw [z, tt] at e; cases e) e
      exact k D _ H2 p (fun b o ne e => sm b o ne (s1 b o e)) (none_back s1 nD) eD tk2 stb (pg_at (a1.imp fun v g r => gm_up v g _ _ kt2 r) fun i hi => stb.2.1 i hi)
def abz : Str := Str.ofString "abcdefghijklmnopqrstuvwxyz"
def lz : List Nat := [97, 98, 99, 100, 101, 102, 103, 104, 105, 106, 107, 108, 109, 110, 111, 112, 113, 114, 115, 116, 117, 118, 119, 120, 121, 122]
def ltz (n : Int) : Nat := lz.getD (n % 26).toNat 0
theorem abz_get {n : Int} (h0 : 0 ≤ n % 26) (h1 : n % 26 < 26) : atI abz.cps.toList (n % 26) = some (ltz n) := by
  have e : abz.cps.toList = lz := by decide +kernel
  obtain ⟨m, hm⟩ : ∃ m : Nat, n % 26 = m := ⟨_, (Int.toNat_of_nonneg h0).symm⟩
  have l : m < lz.length := by show m < 26; omega
  rw [e, hm]
  refine atI_nat ?_
  unfold ltz
  rw [hm, Int.toNat_natCast, List.getD_eq_getElem?_getD, List.getElem?_eq_getElem l]
  rfl
theorem ltz_lt (n : Int) : ltz n < 123 := by
  have a : ∀ m : Nat, m < 26 → lz.getD m 0 < 123 := by decide
  have h0 := Int.emod_nonneg n (show (26 : Int) ≠ 0 by decide)
  have h1 := Int.emod_lt_of_pos n (show (0 : Int) < 26 by decide)
  exact a _ (by omega)
theorem ltz_inj {m n : Int} (h : ltz m = ltz n) : m % 26 = n % 26 := by
  have a : ∀ i : Nat, i < 26 → ∀ j : Nat, j < 26 → lz.getD i 0 = lz.getD j 0 → i = j := by decide
  have h0 := Int.emod_nonneg m (show (26 : Int) ≠ 0 by decide)
  have h1 := Int.emod_lt_of_pos m (show (0 : Int) < 26 by decide)
  have h2 := Int.emod_nonneg n (show (26 : Int) ≠ 0 by decide)
  have h3 := Int.emod_lt_of_pos n (show (0 : Int) < 26 by decide)
  have := a _ (show (m % 26).toNat < 26 by omega) _ (show (n % 26).toNat < 26 by omega) h
  omega
def bs44 (c : Int) : List Nat := (List.range 8).map fun j : Nat => ltz (c / (7 + 3 * (0 + (j : Int))))
theorem bs44_len (c : Int) : (bs44 c).length = 8 := rfl
theorem bs44_lt {c : Int} : ∀ e ∈ bs44 c, e < 123 := fun e he => by
  obtain ⟨j, _, rfl⟩ := List.mem_map.mp he
  exact ltz_lt _
def nm44 (c : Int) (at' sz : Nat) (k : Nat) : List Nat := (bs44 c).take at' ++ [ltz (c / 200 + 3 * (k : Int))] ++ ((bs44 c).drop (at' + 1)).take (sz - (at' + 1))
theorem nm44_lt {c : Int} {at' sz k : Nat} : ∀ e ∈ nm44 c at' sz k, e < 123 := fun e he => by
  rcases List.mem_append.mp he with he | he
  · rcases List.mem_append.mp he with he | he
    · exact bs44_lt e (List.mem_of_mem_take he)
    · rw [List.mem_singleton.mp he]
      exact ltz_lt _
  · exact bs44_lt e (List.mem_of_mem_drop (List.mem_of_mem_take he))
theorem nm44_inj {c : Int} {at' sz i j : Nat} (hi : i < 8) (hj : j < 8) (h : nm44 c at' sz i = nm44 c at' sz j) : i = j := by
  unfold nm44 at h
  rw [List.append_assoc, List.append_assoc] at h
  have h := List.append_cancel_left h
  have h : ltz (c / 200 + 3 * (i : Int)) = ltz (c / 200 + 3 * (j : Int)) := by
    have := congrArg (fun l : List Nat => l[0]?) h
    simpa using this
  have h := ltz_inj h
  omega
theorem str_ok {x : Str} (h : ∀ e ∈ co x, e < 123) : PyData.strOk x = true := ok_of fun e he => Nat.lt_trans (h e he) (by decide)
def sp_l_names (K : PySem.W.Frag) (ns : List Int) : Sp := fun vs H Q _ => match vs with
  | [.int c, .int m] => (0 ≤ m ∧ m ≤ 8) ∧ ∀ L (nm : List Str) H', Same H H' → H' L = some (.lst (nm.map V.str)) → (nm.length : Int) = m → nm.Nodup → (∀ x ∈ nm, PyData.strOk x = true) → Q (.ref L) H'
  | _ => False
theorem sc_l_names : FnScope ["_law_cell_here", "_law_many", "_law_letters", "_law_base", "_law_size", "_law_at", "_law_names_here", "_law_k", "_law_letter"] ["_law_cell_here", "_law_many"] (defScope s_l_names) := ⟨rfl, rfl, rfl, by decide +kernel, rfl, by decide +kernel, by decide +kernel⟩
theorem ok_l_names (d : Dfn K mg "_law_names" s_l_names ["_law_cell_here", "_law_many"]) (er : Errs K mg c_Ledger c_NoTable c_Rule) (n_range : mg "range" = none)   : Cal P w K mg base "_law_names" ["_law_cell_here", "_law_many"] 1 (sp_l_names K ns) := by
  refine d.cal (k := 0) sc_l_names (fun vs H Q E h => ?_) (fun f cdv A outer s H vs Q E hr h => ?_)
  · match vs, h with
    | [.int c, .int m], _ => rfl
  · match vs, h with
    | [.int c, .int m], ⟨⟨m0, m8⟩, q⟩ =>
      refine ⟨_, (@pss_cons _ _ _ _ _ (@ps_set _ _ (2) _ _ _ _ sc_l_names.nd rfl (by first | exact Or.inl rfl | exact Or.inr rfl) pe_str (by rfl) (by first | exact .inl rfl | exact .inr rfl | assumption)) (@pss_cons _ _ _ _ _ (@ps_set _ _ (3) _ _ _ _ sc_l_names.nd rfl (by first | exact Or.inl rfl | exact Or.inr rfl) (@e_join _ _ _ _ _ ("join") _ _ pe_str (@pa_cons _ _ _ _ _ (@e_compN _ _ _ _ _ _ _ _ _ _ ["_law_k"] ["_law_letters", "_law_cell_here"] [2, 0] rfl (@pi_range1 _ _ _ _ _ _ (by rfl) n_range (@pa_cons _ _ _ _ _ pe_int pa_nil (by rfl)) (by rfl)) (fun C s H fp => (@pg_name _ _ (0) _ (show List.Nodup [("_law_k" : Str), ("_law_letters" : Str), ("_law_cell_here" : Str)] by decide +kernel) rfl (by first | exact Or.inl rfl | exact Or.inr rfl) (by first | exact .inl rfl | exact .inr rfl | assumption))) (fun C s H fp => (@pe_ix _ _ _ _ _ _ _ i_str (dv 1) (@pe_op _ _ _ _ _ _ _ _ o_mod (@pe_op _ _ _ _ _ _ _ _ o_div (dv 2) (@pe_op _ _ _ _ _ _ _ _ o_add pe_int (@pe_op _ _ _ _ _ _ _ _ o_mul pe_int (dv 0)))) pe_int) (fun _ _ => rfl))) rfl rfl (by decide +kernel) (by decide +kernel) (by rfl) ⟨rfl, ⟨rfl, True.intro⟩⟩ ⟨⟨rfl, rfl, rfl, rfl⟩, ⟨⟨rfl, rfl, rfl, rfl⟩, True.intro⟩⟩ (by intro _; rfl)) pa_nil (by rfl)) (by rfl) (by rfl) (by rfl) (by rfl) (by rfl)) (by rfl) (by first | exact .inl rfl | exact .inr rfl | assumption)) (@pss_cons _ _ _ _ _ (@ps_set _ _ (4) _ _ _ _ sc_l_names.nd rfl (by first | exact Or.inl rfl | exact Or.inr rfl) (@pe_op _ _ _ _ _ _ _ _ o_add pe_int (@pe_op _ _ _ _ _ _ _ _ o_mod (dv 0) pe_int)) (by rfl) (by first | exact .inl rfl | exact .inr rfl | assumption)) (@pss_cons _ _ _ _ _ (@s_if _ _ _ _ _ _ _ _ (@t_cmp _ _ _ _ _ _ _ _ o_eq (@pe_op _ _ _ _ _ _ _ _ o_mod (@pe_op _ _ _ _ _ _ _ _ o_div (dv 0) pe_int) pe_int) pe_int (@nomark _ _ (by decide) (by decide))) (@pss_one _ _ _ (@ps_ret _ _ _ _ (@e_compN _ _ _ _ _ _ _ _ _ _ ["_law_k"] ["_law_base", "_law_size"] [3, 4] rfl (@pi_range1 _ _ _ _ _ _ (by rfl) n_range (@pa_cons _ _ _ _ _ (dv 1) pa_nil (by rfl)) (by rfl)) (fun C s H fp => (@pg_name _ _ (0) _ (show List.Nodup [("_law_k" : Str), ("_law_base" : Str), ("_law_size" : Str)] by decide +kernel) rfl (by first | exact Or.inl rfl | exact Or.inr rfl) (by first | exact .inl rfl | exact .inr rfl | assumption))) (fun C s H fp => (@pe_slice _ _ _ _ _ _ _ _ _ _ sl_str (dv 1) po_none (po_some (pe_op o_add pe_int (pe_op o_mod (pe_op o_add (dv 2) (dv 0)) pe_int))))) rfl rfl (by decide +kernel) (by decide +kernel) (by rfl) ⟨rfl, ⟨rfl, True.intro⟩⟩ ⟨⟨rfl, rfl, rfl, rfl⟩, ⟨⟨rfl, rfl, rfl, rfl⟩, True.intro⟩⟩ (by intro _; rfl)))) pss_nil) (@ss_cutE _ _ _ _ _ (@ps_set _ _ (5) _ _ _ _ sc_l_names.nd rfl (by first | exact Or.inl rfl | exact Or.inr rfl) (@pe_op _ _ _ _ _ _ _ _ o_mod (@pe_op _ _ _ _ _ _ _ _ o_div (dv 0) pe_int) (dv 4)) (by rfl) (by first | exact .inl rfl | exact .inr rfl | assumption)) (@pss_cons _ _ _ _ _ (@ps_set _ _ (6) _ _ _ _ sc_l_names.nd rfl (by first | exact Or.inl rfl | exact Or.inr rfl) (@pe_lst _ _ _ _ pa_nil) (by rfl) (by first | exact .inl rfl | exact .inr rfl | assumption)) (@pss_cons _ _ _ _ _ (@ps_for _ _ _ _ _ _ _ _ PassesOwn.never rfl (@pi_range1 _ _ _ _ _ _ (by rfl) n_range (@pa_cons _ _ _ _ _ (dv 1) pa_nil (by rfl)) (by rfl)) (@pg_name _ _ (7) _ sc_l_names.nd rfl (by first | exact Or.inl rfl | exact Or.inr rfl) (by first | exact .inl rfl | exact .inr rfl | assumption)) (@pss_cons _ _ _ _ _ (@ps_set _ _ (8) _ _ _ _ sc_l_names.nd rfl (by first | exact Or.inl rfl | exact Or.inr rfl) (@pe_ix _ _ _ _ _ _ _ i_str (dv 2) (@pe_op _ _ _ _ _ _ _ _ o_mod (@pe_op _ _ _ _ _ _ _ _ o_add (@pe_op _ _ _ _ _ _ _ _ o_div (dv 0) pe_int) (@pe_op _ _ _ _ _ _ _ _ o_mul pe_int (dv 7))) pe_int) (fun _ _ => rfl)) (by rfl) (by first | exact .inl rfl | exact .inr rfl | assumption)) (@pss_one _ _ _ (@ps_expr _ _ _ _ (@pe_bm _ _ _ _ _ _ _ _ _ _ _ _ PySem.F.plainAttrs_list PySem.F.slot_list_append PySem.F.type_list_append mt_append (dv 6) (@pa_cons _ _ _ _ _ (@pe_op _ _ _ _ _ _ _ _ o_addS (@pe_op _ _ _ _ _ _ _ _ o_addS (@pe_slice _ _ _ _ _ _ _ _ _ _ sl_str (dv 3) po_none (po_some (dv 5))) (dv 8)) (@pe_slice _ _ _ _ _ _ _ _ _ _ sl_str (dv 3) (po_some (pe_op o_add (dv 5) pe_int)) (po_some (dv 4)))) pa_nil (by rfl)) (by rfl) (by rfl) (by rfl) (by rfl) (by rfl)) (by rfl)))) (by intro _; rfl)) (@pss_one _ _ _ (@ps_ret _ _ _ _ (dv 6)))))))))), ?_⟩
      refine ⟨rfl, 8, rfl, by decide, by decide, comp_rng (n := 8) (fun j => V.str ⟨#[ltz (c / (7 + 3 * (0 + (j : Int))))]⟩) (by decide) ?_ ?_⟩
      · intro i H2 hi s2 P hP
        have e0 := Int.emod_nonneg (c / (7 + 3 * (0 + (i : Int)))) (show (26 : Int) ≠ 0 by decide)
        have e1 := Int.emod_lt_of_pos (c / (7 + 3 * (0 + (i : Int)))) (show (0 : Int) < 26 by decide)
        have bd : Bd 4000 (7 + 3 * (0 + (i : Int))) := bd_of (b := 100) (by omega) (by omega) (bd_lit rfl)
        exact ⟨rfl, .inr (.inl ⟨by decide, by decide⟩), ⟨by show 0 < 7 + 3 * (0 + (i : Int)); omega, bd⟩, (by show (0 : Int) < 26; decide), _, by decide +kernel, abz_get e0 e1, hP⟩
      intro D H2 s2 e2
      refine ⟨(List.range 8).map fun j : Nat => ⟨#[ltz (c / (7 + 3 * (0 + (j : Int))))]⟩, SqL.of ?_, Nat.le_of_ble_eq_true rfl, ?_⟩
      · rw [e2, List.map_map]
        rfl
      have hb : co (Txt.join (Str.ofString "") ((List.range 8).map fun j : Nat => ⟨#[ltz (c / (7 + 3 * (0 + (j : Int))))]⟩)) = bs44 c := by
        rw [join0, List.map_map]
        rfl
      generalize Txt.join (Str.ofString "") ((List.range 8).map fun j : Nat => (⟨#[ltz (c / (7 + 3 * (0 + (j : Int))))]⟩ : Str)) = b at hb
      have lb : b.length = 8 := by rw [← co_len, hb, bs44_len]
      have zb : b.length ≤ sizeLine := by rw [lb]; decide
      have z0 := Int.emod_nonneg c (show (8 : Int) ≠ 0 by decide)
      have z1 := Int.emod_lt_of_pos c (show (0 : Int) < 8 by decide)
      refine ⟨(by show (0 : Int) < 8; decide), ⟨by decide, bd_lit rfl⟩, (by show (0 : Int) < 3; decide), ⟨fun _ => ?_, fun _ => ?_⟩⟩
      · refine ⟨_, rfl, by omega, by omega, comp_rng (n := m.toNat) (fun k => V.str (Txt.slice b none (some (1 + (1 + c % 8 + (0 + (k : Int))) % 8)))) (by omega) ?_ ?_⟩
        · intro i H3 hi s3 P hP
          exact ⟨rfl, (by show (0 : Int) < 8; decide), _, rfl, zb, hP⟩
        intro L H3 s3 e3
        have cs : ∀ k : Nat, co (Txt.slice b none (some (1 + (1 + c % 8 + (0 + (k : Int))) % 8))) = (bs44 c).take ((1 + (1 + c % 8 + (0 + (k : Int))) % 8).toNat) := fun k => by
          have w0 := Int.emod_nonneg (1 + c % 8 + (0 + (k : Int))) (show (8 : Int) ≠ 0 by decide)
          have w1 := Int.emod_lt_of_pos (1 + c % 8 + (0 + (k : Int))) (show (0 : Int) < 8 by decide)
          obtain ⟨t, ht⟩ : ∃ t : Nat, 1 + (1 + c % 8 + (0 + (k : Int))) % 8 = t := ⟨_, (Int.toNat_of_nonneg (by omega)).symm⟩
          rw [ht, co_to (by omega), hb, Int.toNat_natCast]
        refine q L ((List.range m.toNat).map fun k : Nat => Txt.slice b none (some (1 + (1 + c % 8 + (0 + (k : Int))) % 8))) H3 (s2.trans s3) (by rw [e3, List.map_map]; rfl) (by rw [List.length_map, List.length_range]; omega) ?_ fun x hx => ?_
        · refine List.pairwise_map.mpr (List.nodup_range.imp_of_mem fun {i j} hi hj ne => fun z => ne ?_)
          have hi := List.mem_range.mp hi
          have hj := List.mem_range.mp hj
          have := congrArg (fun x => (co x).length) z
          simp only [cs, List.length_take, bs44_len] at this
          omega
        · obtain ⟨k, _, rfl⟩ := List.mem_map.mp hx
          refine str_ok fun e he => ?_
          rw [cs] at he
          exact bs44_lt e (List.mem_of_mem_take he)
      have y0 := Int.emod_nonneg (c / 24) (show 1 + c % 8 ≠ 0 by omega)
      have y1 := Int.emod_lt_of_pos (c / 24) (show 0 < 1 + c % 8 by omega)
      refine ⟨fun σ H' => ∃ at' sz : Nat, σ = [some (.int c), some (.int m), some (.str abz), some (.str b), some (.int (1 + (sz : Int))), some (.int (at' : Int)), none, none, none] ∧ H' = H2 ∧ at' < 1 + sz ∧ sz < 8, ?_, ?_⟩
      · refine ⟨⟨by decide, bd_lit rfl⟩, by show 0 < 1 + c % 8; omega, (c / 24 % (1 + c % 8)).toNat, (c % 8).toNat, ?_, rfl, by omega, by omega⟩
        rw [Int.toNat_of_nonneg y0, Int.toNat_of_nonneg z0]
        rfl
      rintro σ H' ⟨at', sz, rfl, rfl, as, s8⟩
      refine ⟨Nat.zero_le _, fun D3 n3 => ?_⟩
      refine ⟨m, rfl, by omega, by omega, for_range (lo := 0) (n := m.toNat) (fun i σ H1 => ∃ (nm : List Str) (o1 o2 : Option V), σ = [some (.int c), some (.int m), some (.str abz), some (.str b), some (.int (1 + (sz : Int))), some (.int (at' : Int)), some (.ref D3), o1, o2] ∧ H1 = upd H' D3 (.lst (nm.map V.str)) ∧ nm.length = i ∧ ∀ (j : Nat) x, nm[j]? = some x → co x = nm44 c at' (1 + sz) j)
        ⟨[], none, none, rfl, rfl, rfl, fun j x h => by simp at h⟩ ?_ ?_⟩
      · rintro i σ H1 hi ⟨nm, o1, o2, rfl, rfl, hl, hall⟩
        have e0 := Int.emod_nonneg (c / 200 + 3 * (0 + (i : Int))) (show (26 : Int) ≠ 0 by decide)
        have e1 := Int.emod_lt_of_pos (c / 200 + 3 * (0 + (i : Int))) (show (0 : Int) < 26 by decide)
        refine ⟨⟨by decide, bd_lit rfl⟩, .inr (.inl ⟨by decide, by decide⟩), (by show (0 : Int) < 26; decide), _, by decide +kernel, abz_get e0 e1, ?_⟩
        have l1 : (Txt.slice b none (some (at' : Int))).length ≤ 8 := Nat.le_trans (Txt.slice_le _ _ _) (by omega)
        have l2 : (Txt.slice b (some ((at' : Int) + 1)) (some (1 + (sz : Int)))).length ≤ 8 := Nat.le_trans (Txt.slice_le _ _ _) (by omega)
        have big : (8 : Nat) + 1 + 8 ≤ sizeLine := by decide
        have sl1 : co (Txt.slice b none (some (at' : Int))) = (bs44 c).take at' := by
          rw [co_to (by omega), hb]
        have sl2 : co (Txt.slice b (some ((at' : Int) + 1)) (some (1 + (sz : Int)))) = ((bs44 c).drop (at' + 1)).take (1 + sz - (at' + 1)) := by
          have := co_cut (x := b) (i := at' + 1) (j := 1 + sz) (by omega) (by omega)
          rw [hb] at this
          exact this
        refine ⟨.inl ⟨rfl, _, SqL.of upd_same⟩, _, rfl, zb, ?_⟩
        refine ⟨Nat.le_trans (Nat.add_le_add l1 (Nat.le_refl 1)) (by decide), _, rfl, _, rfl, zb, ?_⟩
        refine ⟨?_, ?_⟩
        · rw [len_app]
          exact Nat.le_trans (Nat.add_le_add (Nat.add_le_add l1 (Nat.le_refl 1)) l2) big
        refine ⟨D3, _, _, rfl, rfl, upd_same, ?_, nm ++ [Txt.slice b none (some (at' : Int)) ++ ⟨#[ltz (c / 200 + 3 * (0 + (i : Int)))]⟩ ++ Txt.slice b (some ((at' : Int) + 1)) (some (1 + (sz : Int)))], _, _, rfl, ?_, ?_, fun j x hx => ?_⟩
        · rw [List.length_map, hl]
          exact Nat.lt_of_lt_of_le (show i < 8 by omega) (by decide)
        · rw [upd_upd, List.map_append]
          rfl
        · rw [List.length_append, hl]
          rfl
        · by_cases hj : j < nm.length
          · rw [List.getElem?_append_left hj] at hx
            exact hall j x hx
          · have ej : j = i := by
              have := (List.getElem?_eq_some_iff.mp hx).1
              rw [List.length_append, List.length_singleton] at this
              omega
            subst ej
            rw [List.getElem?_append_right (by omega), hl, Nat.sub_self] at hx
            cases hx
            rw [co_app, co_app, sl1, sl2, co_one, Int.zero_add]
            rfl
      rintro σ H1 ⟨nm, o1, o2, rfl, rfl, hl, hall⟩
      refine q D3 nm _ (s2.trans (same_upd n3)) upd_same (by omega) ?_ fun x hx => ?_
      · refine List.pairwise_iff_getElem.mpr fun i j hi hj lt z => ?_
        have h1 := hall i _ (List.getElem?_eq_getElem hi)
        have h2 := hall j _ (List.getElem?_eq_getElem hj)
        rw [z, h2] at h1
        have := nm44_inj (by omega) (by omega) h1
        omega
      · obtain ⟨j, hj, rfl⟩ := List.mem_iff_getElem.mp hx
        refine str_ok fun e he => ?_
        rw [hall j _ (List.getElem?_eq_getElem hj)] at he
        exact nm44_lt e he
structure NL44 (nm : List Str) : Prop where
  nd : nm.Nodup
  ok : ∀ x ∈ nm, PyData.strOk x = true
theorem other_ne {n one t : Int} (h : 2 ≤ n) (h0 : 0 ≤ one) (h1 : one < n) (t0 : 0 ≤ t) (t1 : t < n - 1) : 0 ≤ (one + 1 + t) % n ∧ (one + 1 + t) % n < n ∧ (one + 1 + t) % n ≠ one := by
  have a := Int.emod_nonneg (one + 1 + t) (show n ≠ 0 by omega)
  have b := Int.emod_lt_of_pos (one + 1 + t) (show 0 < n by omega)
  refine ⟨a, b, fun c => ?_⟩
  by_cases d : one + 1 + t < n
  · rw [Int.emod_eq_of_lt (by omega) d] at c
    omega
  · have e : (one + 1 + t) % n = one + 1 + t - n := by
      rw [← Int.sub_emod_right]
      exact Int.emod_eq_of_lt (by omega) (by omega)
    omega
def sp_l_game (K : PySem.W.Frag) (ns : List Int) : Sp := fun vs H Q _ => match vs with
  | [.int c, .ref L, .int ds] => ∃ nm : List Str, (H L = some (.lst (nm.map V.str)) ∧ 2 ≤ nm.length ∧ nm.length ≤ 8 ∧ nm.Nodup ∧ 1 ≤ ds) ∧ ∀ v g H', Same H H' → GmAt H' v g → g.a ∈ nm → g.b ∈ nm → g.a ≠ g.b → 0 ≤ g.h → g.h ≤ 2 → Q v H'
  | _ => False
theorem sc_l_game : FnScope ["_law_cell_here", "_law_names_here", "_law_days", "_law_one", "_law_other"] ["_law_cell_here", "_law_names_here", "_law_days"] (defScope s_l_game) := ⟨rfl, rfl, rfl, by decide +kernel, rfl, by decide +kernel, by decide +kernel⟩
theorem ok_l_game (d : Dfn K mg "_law_game" s_l_game ["_law_cell_here", "_law_names_here", "_law_days"]) (er : Errs K mg c_Ledger c_NoTable c_Rule) (n_len : mg "len" = none)   : Cal P w K mg base "_law_game" ["_law_cell_here", "_law_names_here", "_law_days"] 1 (sp_l_game K ns) := by
  refine d.cal (k := 0) sc_l_game (fun vs H Q E h => ?_) (fun f cdv A outer s H vs Q E hr h => ?_)
  · match vs, h with
    | [.int c, .ref L, .int ds], _ => rfl
  · match vs, h with
    | [.int c, .ref L, .int ds], ⟨nm, ⟨hL, l2, l8, nd, d1⟩, k⟩ =>
      refine ⟨_, (@ss_cutE _ _ _ _ _ (@ps_set _ _ (3) _ _ _ _ sc_l_game.nd rfl (by first | exact Or.inl rfl | exact Or.inr rfl) (@pe_op _ _ _ _ _ _ _ _ o_mod (dv 0) (@pe_callB _ _ _ _ _ _ _ _ _ c_len (by rfl) n_len (by decide +kernel) (@pa_cons _ _ _ _ _ (dv 1) pa_nil (by rfl)) (by decide) (by decide) (by rfl) (by rfl))) (by rfl) (by first | exact .inl rfl | exact .inr rfl | assumption)) (@ss_cutE _ _ _ _ _ (@ps_set _ _ (4) _ _ _ _ sc_l_game.nd rfl (by first | exact Or.inl rfl | exact Or.inr rfl) (@pe_op _ _ _ _ _ _ _ _ o_mod (@pe_op _ _ _ _ _ _ _ _ o_add (@pe_op _ _ _ _ _ _ _ _ o_add (dv 3) pe_int) (@pe_op _ _ _ _ _ _ _ _ o_mod (@pe_op _ _ _ _ _ _ _ _ o_div (dv 0) pe_int) (@pe_op _ _ _ _ _ _ _ _ o_sub (@pe_callB _ _ _ _ _ _ _ _ _ c_len (by rfl) n_len (by decide +kernel) (@pa_cons _ _ _ _ _ (dv 1) pa_nil (by rfl)) (by decide) (by decide) (by rfl) (by rfl)) pe_int))) (@pe_callB _ _ _ _ _ _ _ _ _ c_len (by rfl) n_len (by decide +kernel) (@pa_cons _ _ _ _ _ (dv 1) pa_nil (by rfl)) (by decide) (by decide) (by rfl) (by rfl))) (by rfl) (by first | exact .inl rfl | exact .inr rfl | assumption)) (@pss_one _ _ _ (@ps_ret _ _ _ _ (@e_tup _ _ _ _ _ (@pa_cons _ _ _ _ _ (@pe_op _ _ _ _ _ _ _ _ o_mod (@pe_op _ _ _ _ _ _ _ _ o_div (dv 0) pe_int) (dv 2)) (@pa_cons _ _ _ _ _ (@pe_ix _ _ _ _ _ _ _ i_lst (dv 1) (dv 3) (fun _ _ => rfl)) (@pa_cons _ _ _ _ _ (@pe_ix _ _ _ _ _ _ _ i_lst (dv 1) (dv 4) (fun _ _ => rfl)) (@pa_cons _ _ _ _ _ (@pe_op _ _ _ _ _ _ _ _ o_mod (@pe_op _ _ _ _ _ _ _ _ o_div (dv 0) pe_int) pe_int) (@pa_cons _ _ _ _ _ (@pe_op _ _ _ _ _ _ _ _ o_sub (@pe_op _ _ _ _ _ _ _ _ o_mod (@pe_op _ _ _ _ _ _ _ _ o_div (dv 0) pe_int) pe_int) pe_int) pa_nil (by rfl)) (by rfl)) (by rfl)) (by rfl)) (by rfl))))))), ?_⟩
      have le : ((nm.map V.str).length : Int) = nm.length := by rw [List.length_map]
      refine ⟨fun σ H' => ∃ i : Nat, σ = [some (.int c), some (.ref L), some (.int ds), some (.int (i : Int)), none] ∧ H' = H ∧ i < nm.length, ?_, ?_⟩
      · have z0 := Int.emod_nonneg c (show (nm.length : Int) ≠ 0 by omega)
        have z1 := Int.emod_lt_of_pos c (show 0 < (nm.length : Int) by omega)
        refine ⟨_, .inl (SqL.of hL), ?_⟩
        rw [le]
        refine ⟨by omega, (c % (nm.length : Int)).toNat, ?_, rfl, by omega⟩
        rw [Int.toNat_of_nonneg z0]
        rfl
      rintro σ H' ⟨i, rfl, rfl, il⟩
      refine ⟨fun σ H1 => ∃ j : Nat, σ = [some (.int c), some (.ref L), some (.int ds), some (.int (i : Int)), some (.int (j : Int))] ∧ H1 = H' ∧ j < nm.length ∧ j ≠ i, ?_, ?_⟩
      · have z0 := Int.emod_nonneg (c / 8) (show (nm.length : Int) - 1 ≠ 0 by omega)
        have z1 := Int.emod_lt_of_pos (c / 8) (show 0 < (nm.length : Int) - 1 by omega)
        obtain ⟨y0, y1, y2⟩ := other_ne (n := nm.length) (one := i) (by omega) (by omega) (by omega) z0 z1
        refine ⟨⟨by decide, bd_lit rfl⟩, _, .inl (SqL.of hL), ?_⟩
        rw [le]
        refine ⟨by show 0 < (nm.length : Int) - 1; omega, _, .inl (SqL.of hL), ?_⟩
        rw [le]
        refine ⟨by omega, (((i : Int) + 1 + c / 8 % ((nm.length : Int) - 1)) % (nm.length : Int)).toNat, ?_, rfl, by omega, by omega⟩
        rw [Int.toNat_of_nonneg y0]
        rfl
      rintro σ H1 ⟨j, rfl, rfl, jl, ne⟩
      have w0 := Int.emod_nonneg (c / 7) (show (3 : Int) ≠ 0 by decide)
      have w1 := Int.emod_lt_of_pos (c / 7) (show (0 : Int) < 3 by decide)
      have at' : ∀ {m : Nat} (h : m < nm.length), atI (nm.map V.str) (m : Int) = some (.str nm[m]) := fun h => by
        refine atI_nat ?_
        rw [List.getElem?_map, List.getElem?_eq_getElem h]
        rfl
      refine ⟨⟨by decide, bd_lit rfl⟩, by show 0 < ds; omega, _, _, SqL.of hL, at' il, _, _, SqL.of hL, at' jl, ⟨by decide, bd_lit rfl⟩, (by show (0 : Int) < 3; decide), ⟨by decide, bd_lit rfl⟩, (by show (0 : Int) < 3; decide), fun T H2 s2 e2 => ?_⟩
      refine k (.ref T) ⟨c / 56 % ds, nm[i], nm[j], c / 7 % 3, c / 5 % 3 - 1⟩ H2 s2 ⟨T, rfl, e2⟩ (List.getElem_mem il) (List.getElem_mem jl) (fun z => ne ?_) w0 (by show c / 7 % 3 ≤ 2; omega)
      exact ((List.getElem_inj nd).mp z).symm
def PnAt (H : Hp) (v : V) (e : En) : Prop := ∃ t p, v = .ref t ∧ H t = some (.tup [.int e.1, .ref p]) ∧ H p = some (.tup [.int e.2.d, .str e.2.a, .str e.2.b, .int e.2.h, .int e.2.s])
theorem pn_up (v : V) (e : En) (H H' : Hp) (k : Kt H H') (h : PnAt H v e) : PnAt H' v e := by
  obtain ⟨t, p, z, h0, h1⟩ := h
  exact ⟨t, p, z, k _ _ h0, k _ _ h1⟩
def d0 : En := (0, ⟨0, ⟨#[]⟩, ⟨#[]⟩, 0, 0⟩)
def pe (es : List En) (q : List Nat) : List En := q.map fun i => es.getD i d0
def kE (es : List En) (i : Nat) : Int := dk (es.map (·.2)) i
theorem kE_at {es : List En} {i : Nat} {e : En} (h : es[i]? = some e) : kE es i = e.2.d ∧ es.getD i d0 = e := by
  refine ⟨?_, ?_⟩
  · unfold kE dk
    rw [List.getElem?_map, h]
    rfl
  · rw [List.getD_eq_getElem?_getD, h]
    rfl
def lx (a b : En) : Prop := a.2.d < b.2.d ∨ a.2.d = b.2.d ∧ a.1 < b.1
theorem pg_pe {fs : List En} {p : List Nat} (h : Stb (dk (fs.map (·.2))) (fs.map (·.2)).length p) : pg (fs.map (·.2)) p = (pe fs p).map (·.2) := by
  have h2 := h.2.1
  clear h
  unfold pg pe
  induction p with
  | nil => rfl
  | cons i p ih =>
    have hi := h2 i List.mem_cons_self
    rw [List.length_map] at hi
    rw [List.filterMap_cons, List.getElem?_map, List.getElem?_eq_getElem hi, List.map_cons, List.map_cons, (kE_at (List.getElem?_eq_getElem hi)).2]
    show _ :: _ = _
    rw [ih fun j hj => h2 j (List.mem_cons_of_mem _ hj)]
def sp_l_book (K : PySem.W.Frag) (ns : List Int) : Sp := fun vs H Q _ => match vs with
  | [.ref L] => ∃ (es : List En) (xs : List V), (SqL K H L xs ∧ All2 (PnAt H) xs es ∧ es.length ≤ 100) ∧ ∀ D ws H' q, Same H H' → H D = none → H' D = some (.lst ws) → All2 (GmAt H') ws ((pe es q).map (·.2)) → Stb (kE es) es.length q → Q (.ref D) H'
  | _ => False
theorem sc_l_book : FnScope ["_law_kept", "_law_found", "_law_number", "_law_played", "_law_at"] ["_law_kept"] (defScope s_l_book) := ⟨rfl, rfl, rfl, by decide +kernel, rfl, by decide +kernel, by decide +kernel⟩
theorem ok_l_book (d : Dfn K mg "_law_book" s_l_book ["_law_kept"]) (er : Errs K mg c_Ledger c_NoTable c_Rule) (n_len : mg "len" = none)   : Cal P w K mg base "_law_book" ["_law_kept"] 1 (sp_l_book K ns) := by
  refine d.cal (k := 0) sc_l_book (fun vs H Q E h => ?_) (fun f cdv A outer s H vs Q E hr h => ?_)
  · match vs, h with
    | [.ref L], _ => rfl
  · match vs, h with
    | [.ref L], ⟨es, xs, ⟨hx, hm, hl⟩, k⟩ =>
      refine ⟨_, (@pss_cons _ _ _ _ _ (@ps_set _ _ (1) _ _ _ _ sc_l_book.nd rfl (by first | exact Or.inl rfl | exact Or.inr rfl) (@pe_lst _ _ _ _ pa_nil) (by rfl) (by first | exact .inl rfl | exact .inr rfl | assumption)) (@pss_cons _ _ _ _ _ (@ps_for _ _ _ _ _ _ _ _ PassesOwn.never rfl (@pi_list _ _ _ _ (dv 0)) (@pg_tup _ _ _ _ _ _ rfl (@pgs_cons _ _ _ _ _ (@pg_name _ _ (2) _ sc_l_book.nd rfl (by first | exact Or.inl rfl | exact Or.inr rfl) (by first | exact .inl rfl | exact .inr rfl | assumption)) (@pgs_cons _ _ _ _ _ (@pg_name _ _ (3) _ sc_l_book.nd rfl (by first | exact Or.inl rfl | exact Or.inr rfl) (by first | exact .inl rfl | exact .inr rfl | assumption)) pgs_nil (by rfl)) (by rfl)) (by rfl) (by rfl)) (@pss_cons _ _ _ _ _ (@ps_set _ _ (4) _ _ _ _ sc_l_book.nd rfl (by first | exact Or.inl rfl | exact Or.inr rfl) (@pe_callB _ _ _ _ _ _ _ _ _ c_len (by rfl) n_len (by decide +kernel) (@pa_cons _ _ _ _ _ (dv 1) pa_nil (by rfl)) (by decide) (by decide) (by rfl) (by rfl)) (by rfl) (by first | exact .inl rfl | exact .inr rfl | assumption)) (@pss_cons _ _ _ _ _ (@s_while _ _ _ _ _ _ PassesOwn.never (@L2.PW.pt _ _ _ (@w_and _ _ _ _ _ _ _ (@t_cmp _ _ _ _ _ _ _ _ o_gt (dv 4) pe_int (@nomark _ _ (by decide) (by decide))) (@pw_and1 _ _ _ _ (@t_cmp _ _ _ _ _ _ _ _ o_gt (@pe_ix _ _ _ _ _ _ _ i_tup (@pe_ix _ _ _ _ _ _ _ i_lst (dv 1) (@pe_op _ _ _ _ _ _ _ _ o_sub (dv 4) pe_int) (fun _ _ => rfl)) pe_int (fun _ _ => rfl)) (@pe_ix _ _ _ _ _ _ _ i_tup (dv 3) pe_int (fun _ _ => rfl)) (@nomark _ _ (by decide) (by decide)))))) (@pss_one _ _ _ (@ps_set _ _ (4) _ _ _ _ sc_l_book.nd rfl (by first | exact Or.inl rfl | exact Or.inr rfl) (@pe_op _ _ _ _ _ _ _ _ o_sub (dv 4) pe_int) (by rfl) (by first | exact .inl rfl | exact .inr rfl | assumption)))) (@pss_one _ _ _ (@ps_expr _ _ _ _ (@pe_bm _ _ _ _ _ _ _ _ _ _ _ _ PySem.F.plainAttrs_list PySem.F.slot_list_insert PySem.F.type_list_insert mt_insert (dv 1) (@pa_cons _ _ _ _ _ (dv 4) (@pa_cons _ _ _ _ _ (dv 3) pa_nil (by rfl)) (by rfl)) (by rfl) (by rfl) (by rfl) (by rfl) (by rfl)) (by rfl))))) (by intro _; rfl)) (@pss_one _ _ _ (@ps_ret _ _ _ _ (dv 1))))), ?_⟩
      have lx' := hm.len
      refine ⟨by decide, fun D hD => ?_⟩
      have s0 : Same H (upd H D (.lst [])) := same_upd hD
      have e0 : upd H D (.lst []) D = some (.lst []) := upd_same
      generalize upd H D (.lst []) = H0 at s0 e0
      refine ⟨L, rfl, ⟨_, s0.seq hx⟩, for_list (K := K) (a := L) (xs := xs) (fun i σ H' => ∃ (q : List Nat) (ws : List V) (o2 o3 o4 : Option V), σ = [some (.ref L), some (.ref D), o2, o3, o4] ∧ Same H H' ∧ H' D = some (.lst ws) ∧ All2 (GmAt H') ws ((pe es q).map (·.2)) ∧ Stb (kE es) i q) ⟨[], [], none, none, none, rfl, s0, e0, .nil, rfl, fun i hi => absurd hi (by simp), .nil⟩ (fun i σ H' _ ⟨_, _, _, _, _, _, s, _⟩ => s.seq hx) ?_ ?_⟩
      · rintro i v σ H1 hv ⟨q, ws, o2, o3, o4, rfl, s1, e1, aw, st⟩
        obtain ⟨e, he, t, p, rfl, ht, hp⟩ := hm.get hv
        obtain ⟨k1, k2⟩ := kE_at he
        have ht1 := s1 _ _ ht
        have hp1 := s1 _ _ hp
        have il : i < es.length := (List.getElem?_eq_some_iff.mp he).1
        have lw : ws.length = i := by rw [aw.len]; unfold pe; rw [List.length_map, List.length_map, st.1]
        refine ⟨t, _, rfl, SqT.of ht1, rfl, _, _, rfl, _, _, rfl, rfl, _, .inl (SqL.of e1), ?_⟩
        rw [lw]
        refine ⟨fun m σ H' => ∃ u : Nat, σ = [some (.ref L), some (.ref D), some (.int e.1), some (.ref p), some (.int u)] ∧ H' = H1 ∧ u ≤ i ∧ (∀ j ∈ q.drop u, kE es i < kE es j) ∧ m = u, ⟨_, i, rfl, rfl, Nat.le_refl _, fun j hj => ?_, rfl⟩, ?_⟩
        · rw [List.drop_eq_nil_of_le (by rw [st.1]; exact Nat.le_refl _)] at hj
          simp at hj
        rintro m σ H' ⟨u, rfl, rfl, hu, hd, rfl⟩
        have fin : ∀ u : Nat, u ≤ i → (∀ j ∈ q.take u, kE es j ≤ kE es i) → (∀ j ∈ q.drop u, kE es i < kE es j) → rInsert (.ref D) [.int (u : Int), .ref p] H' fun _ H3 => ∃ (q : List Nat) (ws : List V) (o2 o3 o4 : Option V), [some (V.ref L), some (V.ref D), some (V.int e.1), some (V.ref p), some (V.int (u : Int))] = [some (V.ref L), some (V.ref D), o2, o3, o4] ∧ Same H H3 ∧ H3 D = some (.lst ws) ∧ All2 (GmAt H3) ws ((pe es q).map (·.2)) ∧ Stb (kE es) (i + 1) q := fun u hu lo hi' => by
          have e2 := e1
          refine ⟨D, _, _, _, rfl, rfl, e2, by omega, by rw [lw]; omega, by rw [lw]; omega, q.take u ++ i :: q.drop u, _, _, _, _, rfl, same_app' s1 hD, upd_same, ?_, stb_ins st lo hi'⟩
          have kt : Kt H' (upd H' D (.lst (insV ws (u : Int).toNat (.ref p)))) := kt_upd e2
          have aw2 := aw.imp fun v e r => gm_up v e _ _ kt r
          unfold insV pe
          rw [Int.toNat_natCast, List.map_append, List.map_append, List.map_cons, List.map_cons, List.map_take, List.map_drop, List.map_take, List.map_drop, k2]
          exact All2.app (All2.take u aw2) (.cons ⟨p, rfl, kt _ _ hp1⟩ (All2.drop u aw2))
        refine ⟨fun h1 => ?_, fun h1 => ?_⟩
        · have h1 := of_decide_eq_true h1
          obtain ⟨u, rfl⟩ : ∃ u, m = u + 1 := ⟨m - 1, by omega⟩
          have tq : u < q.length := by rw [st.1]; omega
          have jl := st.2.1 _ (List.getElem_mem tq)
          have hj : q[u] < es.length := by omega
          obtain ⟨k3, k4⟩ := kE_at (List.getElem?_eq_getElem hj)
          have wl : u < ws.length := by omega
          obtain ⟨g', ge, pj, ej, h4⟩ := aw.get (List.getElem?_eq_getElem wl)
          have : g' = es[q[u]].2 := by
            unfold pe at ge
            rw [List.getElem?_map, List.getElem?_map, List.getElem?_eq_getElem tq] at ge
            have := Option.some.inj ge
            rw [← this]
            exact congrArg (·.2) k4
          subst this
          have ea : atI ws (((u + 1 : Nat) : Int) - 1) = some (.ref pj) := by
            rw [show ((u + 1 : Nat) : Int) - 1 = (u : Int) by omega]
            exact atI_nat (by rw [List.getElem?_eq_getElem wl, ej])
          refine ⟨_, _, SqL.of e1, ea, _, h4, _, hp1, ⟨fun h2 => ?_, fun h2 => ?_⟩⟩
          · have h2 : e.2.d < es[q[u]].2.d := of_decide_eq_true h2
            refine ⟨u, by omega, u, ?_, rfl, by omega, fun j hj' => ?_, rfl⟩
            · show [some (V.ref L), some (V.ref D), some (V.int e.1), some (V.ref p), some (V.int (((u + 1 : Nat) : Int) - 1))] = _
              rw [show ((u + 1 : Nat) : Int) - 1 = (u : Int) by omega]
            · rw [List.drop_eq_getElem_cons tq] at hj'
              rcases List.mem_cons.mp hj' with rfl | hj'
              · rw [k1, k3]
                exact h2
              · exact hd j hj'
          · have h2 : ¬ e.2.d < es[q[u]].2.d := of_decide_eq_false h2
            exact ⟨.inl ⟨rfl, _, SqL.of e1⟩, fin (u + 1) hu (stb_lo st (List.getElem?_eq_getElem tq) (by rw [k1, k3]; omega)) hd⟩
        · have h1 := of_decide_eq_false h1
          have : m = 0 := by omega
          subst this
          exact ⟨fun h => nb h, fun _ => ⟨.inl ⟨rfl, _, SqL.of e1⟩, fin 0 hu (fun j hj => by simp at hj) hd⟩⟩
      · rintro σ H1 ⟨q, ws, o2, o3, o4, rfl, s1, e1, aw, st⟩
        rw [lx'] at st
        exact k D ws H1 q s1 hD e1 aw st
def sp_l_whole (K : PySem.W.Frag) (ns : List Int) : Sp := fun vs H Q _ => match vs with
  | [.int _] => Q (.bl true) H
  | _ => False
theorem sc_l_whole : FnScope ["_law_found"] ["_law_found"] (defScope s_l_whole) := ⟨rfl, rfl, rfl, by decide +kernel, rfl, by decide +kernel, by decide +kernel⟩
theorem ok_l_whole (d : Dfn K mg "_law_whole" s_l_whole ["_law_found"]) (er : Errs K mg c_Ledger c_NoTable c_Rule) (n_isinstance : mg "isinstance" = none) (n_bool : mg "bool" = none) (n_int : mg "int" = none)   : Cal P w K mg base "_law_whole" ["_law_found"] 1 (sp_l_whole K ns) := by
  refine d.cal (k := 0) sc_l_whole (fun vs H Q E h => ?_) (fun f cdv A outer s H vs Q E hr h => ?_)
  · match vs, h with
    | [.int _], _ => rfl
  · match vs, h with
    | [.int _], q =>
      refine ⟨_, (@pss_one _ _ _ (@ps_ret _ _ _ _ (@e_and _ _ _ _ _ _ _ (@pe_callB _ _ _ _ _ _ _ _ _ c_isi (by rfl) n_isinstance (by decide +kernel) (@pa_cons _ _ _ _ _ (dv 0) (@pa_cons _ _ _ _ _ (e_ty "int" (by rfl) n_int (by decide +kernel)) pa_nil (by rfl)) (by rfl)) (by decide) (by decide) (by rfl) (by rfl)) (@pe_one _ _ _ _ _ (@e_not _ _ _ _ (@pe_callB _ _ _ _ _ _ _ _ _ c_isi (by rfl) n_isinstance (by decide +kernel) (@pa_cons _ _ _ _ _ (dv 0) (@pa_cons _ _ _ _ _ (e_ty "bool" (by rfl) n_bool (by decide +kernel)) pa_nil (by rfl)) (by rfl)) (by decide) (by decide) (by rfl) (by rfl))))))), ?_⟩
      exact ⟨true, rfl, fun _ => ⟨false, rfl, q⟩, fun h => absurd h (by decide)⟩
theorem LgAt.smt {K : PySem.W.Frag} {T L A : Addr} {H H' : Hp} {es : List En} {last : Int} {pos : Pos} {q : Str} (sm : SmT T H H') (tk : TabOk H T pos q) (h : LgAt K H L A es last) : LgAt K H' L A es last := by
  obtain ⟨ps, tt, _⟩ := tk
  obtain ⟨C, dx, fs, eL, hC, fd, kvs, eA, al⟩ := h
  have kt : Kt H H' := fun p xs e => sm p _ (fun z => by rw [z, tt] at e; cases e) e
  exact ⟨C, dx, fs, sm _ _ (fun z => by rw [z, tt] at eL; cases eL) eL, hC, fd, kvs, sm _ _ (fun z => by rw [z, tt] at eA; cases eA) eA, al.imp fun kv e r => en_up kv e _ _ kt r⟩
theorem LgAt.up {K : PySem.W.Frag} {H H' : Hp} {L A : Addr} {es : List En} {last : Int} (s : Same H H') (h : LgAt K H L A es last) : LgAt K H' L A es last := by
  obtain ⟨C, dx, fs, eL, hC, fd, kvs, eA, al⟩ := h
  exact ⟨C, dx, fs, s _ _ eL, hC, fd, kvs, s _ _ eA, al.imp fun kv e r => en_up kv e _ _ (kt_of s) r⟩
theorem LgAt.sxl {K : PySem.W.Frag} {H : Hp} {L A x : Addr} {es : List En} {last : Int} {zs : List V} {o : HO} (h : LgAt K H L A es last) (e : H x = some (.lst zs)) : LgAt K (upd H x o) L A es last := by
  obtain ⟨C, dx, fs, eL, hC, fd, kvs, eA, al⟩ := h
  have kt : Kt H (upd H x o) := kt_upd e
  refine ⟨C, dx, fs, ?_, hC, fd, kvs, ?_, al.imp fun kv e r => en_up kv e _ _ kt r⟩
  · rw [upd_ne fun z => by rw [z, e] at eL; cases eL]
    exact eL
  · rw [upd_ne fun z => by rw [z, e] at eA; cases eA]
    exact eA
theorem pg_book {es : List En} {p q : List Nat} (hp : Stb (dk (es.map (·.2))) (es.map (·.2)).length p) (hq : Stb (kE es) es.length q) : pg (es.map (·.2)) p = (pe es q).map (·.2) := by
  rw [pg_pe hp]
  have hp' : Stb (kE es) es.length p := by
    rw [List.length_map] at hp
    exact hp
  rw [stb_uniq hp' hq]
def sp_l_shown (K : PySem.W.Frag) (ns : List Int) : Sp := fun vs H Q _ => match vs with
  | [.ref L, .ref KL] => ∃ (A : Addr) (es : List En) (last : Int) (kv : List V), (LgAt K H L A es last ∧ es.length ≤ 40 ∧ TabOk H (T12 K) lp12 q12 ∧ H KL = some (.lst kv) ∧ All2 (PnAt H) kv es ∧ ∀ e ∈ es, PyData.strOk e.2.a = true ∧ PyData.strOk e.2.b = true) ∧ ∀ H', SmT (T12 K) H H' → TabOk H' (T12 K) lp12 q12 → Q (.bl true) H'
  | _ => False
theorem sc_l_shown : FnScope ["_law_ledger", "_law_kept", "_law_found", "_law_due"] ["_law_ledger", "_law_kept"] (defScope s_l_shown) := ⟨rfl, rfl, rfl, by decide +kernel, rfl, by decide +kernel, by decide +kernel⟩
theorem ok_l_shown (d : Dfn K mg "_law_shown" s_l_shown ["_law_ledger", "_law_kept"]) (er : Errs K mg c_Ledger c_NoTable c_Rule) (n_len : mg "len" = none) (n_isinstance : mg "isinstance" = none) (n_tuple : mg "tuple" = none) (n_list : mg "list" = none)  (c_Ledger_games : CalM P w K mg base [c_Ledger] [] "games" ["self"] 4 (sp_Ledger_games K ns)) (c_l_book : Cal P w K mg base "_law_book" ["_law_kept"] 1 (sp_l_book K ns)) : Cal P w K mg base "_law_shown" ["_law_ledger", "_law_kept"] 5 (sp_l_shown K ns) := by
  refine d.cal (k := 4) sc_l_shown (fun vs H Q E h => ?_) (fun f cdv A outer s H vs Q E hr h => ?_)
  · match vs, h with
    | [.ref L, .ref KL], _ => rfl
  · match vs, h with
    | [.ref L, .ref KL], ⟨A, es, last, kv, ⟨lg, l40, tk, eK, aK, sok⟩, k⟩ =>
      refine ⟨_, (@pss_cons _ _ _ _ _ (@ps_set _ _ (2) _ _ _ _ sc_l_shown.nd rfl (by first | exact Or.inl rfl | exact Or.inr rfl) (e_methV0 (dv 0) (mv_cons c_Ledger_games (List.Mem.head _) er.l_Ledger (by decide) mv_nil) hr) (by rfl) (by first | exact .inl rfl | exact .inr rfl | assumption)) (@pss_cons _ _ _ _ _ (@s_if _ _ _ _ _ _ _ _ (@L2.PW.pt _ _ _ (@w_or _ _ _ _ _ _ _ (@pt_not _ _ _ _ (@t_val _ _ _ (@pe_callB _ _ _ _ _ _ _ _ _ c_isi (by rfl) n_isinstance (by decide +kernel) (@pa_cons _ _ _ _ _ (dv 2) (@pa_cons _ _ _ _ _ (e_ty "list" (by rfl) n_list (by decide +kernel)) pa_nil (by rfl)) (by rfl)) (by decide) (by decide) (by rfl) (by rfl)) (by intro _; rfl))) (@pw_or1 _ _ _ _ (@t_cmp _ _ _ _ _ _ _ _ o_gt (@pe_callB _ _ _ _ _ _ _ _ _ c_len (by rfl) n_len (by decide +kernel) (@pa_cons _ _ _ _ _ (@e_compIN _ _ _ _ _ _ _ _ _ _ _ _ ["_law_one"] [] [] rfl (@pi_list _ _ _ _ (dv 2)) (fun C s H fp => (@pg_name _ _ (0) _ (show List.Nodup [("_law_one" : Str)] by decide +kernel) rfl (by first | exact Or.inl rfl | exact Or.inr rfl) (by first | exact .inl rfl | exact .inr rfl | assumption))) (fun C s H fp => (@pt_not _ _ _ _ (@t_val _ _ _ (@pe_callB _ _ _ _ _ _ _ _ _ c_isi (by rfl) n_isinstance (by decide +kernel) (@pa_cons _ _ _ _ _ (dv 0) (@pa_cons _ _ _ _ _ (e_ty "tuple" (by rfl) n_tuple (by decide +kernel)) pa_nil (by rfl)) (by rfl)) (by decide) (by decide) (by rfl) (by rfl)) (by intro _; rfl)))) (fun C s H fp => (dv 0)) rfl rfl (by decide +kernel) (by decide +kernel) (by rfl) True.intro True.intro (by intro _; rfl)) pa_nil (by rfl)) (by decide) (by decide) (by rfl) (by rfl)) pe_int (@nomark _ _ (by decide) (by decide)))))) (@pss_one _ _ _ (@ps_ret _ _ _ _ pe_bl)) pss_nil) (@pss_cons _ _ _ _ _ (@ps_set _ _ (3) _ _ _ _ sc_l_shown.nd rfl (by first | exact Or.inl rfl | exact Or.inr rfl) (@e_call _ _ _ _ _ _ _ _ _ _ _ c_l_book hr (by decide) (by rfl) (@pa_cons _ _ _ _ _ (dv 1) pa_nil (by rfl)) (by decide) (by rfl) (by rfl)) (by rfl) (by first | exact .inl rfl | exact .inr rfl | assumption)) (@pss_cons _ _ _ _ _ (@s_if _ _ _ _ _ _ _ _ (@t_cmp _ _ _ _ _ _ _ _ (@o_neD _ hr.units) (dv 2) (dv 3) (@nomark _ _ (by decide) (by decide))) (@pss_one _ _ _ (@ps_ret _ _ _ _ pe_bl)) pss_nil) (@pss_cons _ _ _ _ _ (@ps_expr _ _ _ _ (@pe_bm _ _ _ _ _ _ _ _ _ _ _ _ PySem.F.plainAttrs_list PySem.F.slot_list_append PySem.F.type_list_append mt_append (dv 2) (@pa_cons _ _ _ _ _ pe_non pa_nil (by rfl)) (by rfl) (by rfl) (by rfl) (by rfl) (by rfl)) (by rfl)) (@pss_cons _ _ _ _ _ (@ps_expr _ _ _ _ (@pe_bm0 _ _ _ _ _ _ _ _ _ PySem.F.plainAttrs_list PySem.F.slot_list_reverse PySem.F.type_list_reverse mt_reverse (dv 2) (by rfl) (by rfl)) (by rfl)) (@pss_one _ _ _ (@ps_ret _ _ _ _ (@pe_cmpR _ _ _ _ _ _ _ _ (@o_eqD _ hr.units) (e_methV0 (dv 0) (mv_cons c_Ledger_games (List.Mem.head _) er.l_Ledger (by decide) mv_nil) hr) (dv 3) (@nomark _ _ (by decide) (by decide))))))))))), ?_⟩
      obtain ⟨C, dx, fs, eL, hC, fd, kp⟩ := id lg
      have hCc := ns_inj' hC er.y_Ledger
      subst hCc
      obtain ⟨ps, tt, _⟩ := id tk
      have sG : ∀ {q : List Nat}, ∀ g ∈ (pe es q).map (·.2), g ∈ es.map (·.2) ∨ g = d0.2 := fun g hg => by
        obtain ⟨e, he, rfl⟩ := List.mem_map.mp hg
        unfold pe at he
        obtain ⟨i, _, rfl⟩ := List.mem_map.mp he
        by_cases hi : i < es.length
        · rw [(kE_at (List.getElem?_eq_getElem hi)).2]
          exact .inl (List.mem_map_of_mem (List.getElem_mem hi))
        · rw [List.getD_eq_getElem?_getD, List.getElem?_eq_none (by omega)]
          exact .inr rfl
      refine ⟨L, _, dx, fs, _, rfl, eL, .head _, fd.ga, A, es, last, ⟨lg, l40, tk⟩, fun F fv H1 p sm nF eF tk1 stb aF => ?_⟩
      have kt1 : Kt H H1 := fun q xs e => sm q _ (fun z => by rw [z, tt] at e; cases e) e
      have eK1 := sm _ _ (fun z => by rw [z, tt] at eK; cases eK) eK
      have nKF : KL ≠ F := fun z => by rw [z, nF] at eK; cases eK
      have lpg : (pg (es.map (·.2)) p).length ≤ 40 := by
        have : (pg (es.map (·.2)) p).length ≤ p.length := List.length_filterMap_le ..
        have := stb.1
        rw [List.length_map] at this
        omega
      have lF := aF.len
      refine ⟨_, true, _, eF, rfl, rfl, ⟨fun h => nb h, fun _ => ?_⟩⟩
      refine ⟨F, rfl, ⟨_, SqL.of eF⟩, comp_absI GmAt gm_up (fun _ _ _ => True) (fun _ _ _ _ _ _ => True.intro) (fun _ => false) (by omega) (SqL.of eF) aF ?_ ?_⟩
      · intro v g H2 hM hg s2 P P' _ hP'
        obtain ⟨q, rfl, eq⟩ := hM
        exact ⟨rfl, _, true, _, eq, rfl, rfl, ⟨fun h => nb h, fun _ => hP' rfl _ (Same.refl _)⟩⟩
      intro D0 H2 ys s2 _ e2 a2
      have ey : ys = [] := by
        have e : (pg (es.map (·.2)) p).filter (fun _ => false) = [] := List.filter_eq_nil_iff.mpr fun a _ => by decide
        rw [e] at a2
        exact List.eq_nil_of_length_eq_zero a2.len.symm
      subst ey
      refine ⟨_, .inl (SqL.of e2), ⟨fun h => absurd (of_decide_eq_true h) (by decide), fun _ => ?_⟩⟩
      refine ⟨es, kv, ⟨SqL.of (s2 _ _ eK1), aK.imp fun v e r => pn_up v e _ _ (kt1.trans (kt_of s2)) r, by omega⟩, fun D ws H3 q s3 nD eD aw st => ?_⟩
      have s13 := s2.trans s3
      have eF3 := s13 _ _ eF
      have aF3 := aF.imp fun v g r => gm_up v g _ _ (kt_of s13) r
      have pgq := pg_book stb st
      rw [pgq] at aF3
      have okG : ∀ g ∈ (pe es q).map (·.2), PyData.strOk g.a = true ∧ PyData.strOk g.b = true := fun g hg => by
        rw [← pgq] at hg
        obtain ⟨e, he, rfl⟩ := List.mem_map.mp (pg_mem hg)
        exact sok e he
      have shG := sh_gms okG
      refine ⟨_, _, rp_gms (SqL.of eF3) aF3, rp_gms (SqL.of eD) aw, shG, shG, ?_⟩
      rw [eqv_shaped shG]
      refine ⟨fun h => nb h, fun _ => ?_⟩
      have nDF : D ≠ F := fun z => by rw [z, s2 _ _ eF] at nD; cases nD
      refine ⟨.inl ⟨rfl, _, SqL.of eF3⟩, F, fv, _, rfl, rfl, eF3, Nat.lt_of_le_of_lt (show fv.length ≤ 40 by omega) (by decide), ?_⟩
      have x4 : Sx F H3 (upd H3 F (.lst (fv ++ [V.non]))) := Sx.upd
      have e4 : upd H3 F (.lst (fv ++ [V.non])) F = some (.lst (fv ++ [V.non])) := upd_same
      refine ⟨.inl ⟨rfl, _, SqL.of e4⟩, F, _, rfl, rfl, e4, ?_⟩
      have x5 : Sx F H3 (upd (upd H3 F (.lst (fv ++ [V.non]))) F (.lst (fv ++ [V.non]).reverse)) := x4.trans Sx.upd
      have kt5 : Kt H3 (upd (upd H3 F (.lst (fv ++ [V.non]))) F (.lst (fv ++ [V.non]).reverse)) := fun q xs e => x5 q _ (fun z => by rw [z, eF3] at e; cases e) e
      have tk5 : TabOk (upd (upd H3 F (.lst (fv ++ [V.non]))) F (.lst (fv ++ [V.non]).reverse)) (T12 K) lp12 q12 := tab_sx (tk1.up s13) x5 (.inl ⟨_, eF3⟩)
      have lg5 : LgAt K (upd (upd H3 F (.lst (fv ++ [V.non]))) F (.lst (fv ++ [V.non]).reverse)) L A es last := (((lg.smt sm tk).up s13).sxl eF3).sxl e4
      have eD5 := x5 _ _ nDF eD
      generalize upd (upd H3 F (.lst (fv ++ [V.non]))) F (.lst (fv ++ [V.non]).reverse) = H5 at x5 kt5 tk5 lg5 eD5
      have aw5 := aw.imp fun v g r => gm_up v g _ _ kt5 r
      obtain ⟨C', dx', fs', eL', hC', fd', _⟩ := id lg5
      have hCc := ns_inj' hC' er.y_Ledger
      subst hCc
      refine ⟨L, _, dx', fs', _, rfl, eL', .head _, fd'.ga, A, es, last, ⟨lg5, l40, tk5⟩, fun F2 fv2 H6 p2 sm2 nF2 eF2 tk6 stb2 aF2 => ?_⟩
      rw [pg_book stb2 st] at aF2
      obtain ⟨ps5, tt5, _⟩ := id tk5
      have kt6 : Kt H5 H6 := fun q xs e => sm2 q _ (fun z => by rw [z, tt5] at e; cases e) e
      have eD6 := sm2 _ _ (fun z => by rw [z, tt5] at eD5; cases eD5) eD5
      refine ⟨_, _, rp_gms (SqL.of eF2) aF2, rp_gms (SqL.of eD6) (aw5.imp fun v g r => gm_up v g _ _ kt6 r), shG, shG, ?_⟩
      rw [eqv_shaped shG]
      exact k H6 (fun b o ne e => sm2 b o ne (x5 b o (fun z => by rw [z, nF] at e; cases e) (s13 b o (sm b o ne e)))) tk6
def Fr4 (L A T X : Addr) (H H' : Hp) : Prop := ∀ b o, b ≠ L → b ≠ A → b ≠ T → b ≠ X → H b = some o → H' b = some o
def sp_l_put (K : PySem.W.Frag) (ns : List Int) : Sp := fun vs H Q _ => match vs with
  | [.ref L, .ref KL, v, .int n] => ∃ (A : Addr) (es : List En) (last : Int) (g : Gm) (kv : List V) (nm : List Str), (LgAt K H L A es last ∧ EsOk nm es last ∧ es.length < 30 ∧ nm.length ≤ 8 ∧ n = last + 1 ∧ GmAt H v g ∧ g.a ∈ nm ∧ g.b ∈ nm ∧ TabOk H (T12 K) lp12 q12 ∧ H KL = some (.lst kv) ∧ All2 (PnAt H) kv es) ∧
    ∀ H' kv', Fr4 L A (T12 K) KL H H' → LgAt K H' L A (es ++ [(last + 1, g)]) (last + 1) → TabOk H' (T12 K) lp12 q12 → H' KL = some (.lst kv') → All2 (PnAt H') kv' (es ++ [(last + 1, g)]) → Q (.bl true) H'
  | _ => False
theorem sc_l_put : FnScope ["_law_ledger", "_law_kept", "_law_played", "_law_number", "_law_told"] ["_law_ledger", "_law_kept", "_law_played", "_law_number"] (defScope s_l_put) := ⟨rfl, rfl, rfl, by decide +kernel, rfl, by decide +kernel, by decide +kernel⟩
theorem ok_l_put (d : Dfn K mg "_law_put" s_l_put ["_law_ledger", "_law_kept", "_law_played", "_law_number"]) (er : Errs K mg c_Ledger c_NoTable c_Rule) (n_len : mg "len" = none) (n_isinstance : mg "isinstance" = none) (n_tuple : mg "tuple" = none)  (c_l_whole : Cal P w K mg base "_law_whole" ["_law_found"] 1 (sp_l_whole K ns)) (c_Ledger_put : CalM P w K mg base [c_Ledger] [] "put" ["self", "played"] 6 (sp_Ledger_put K ns)) : Cal P w K mg base "_law_put" ["_law_ledger", "_law_kept", "_law_played", "_law_number"] 7 (sp_l_put K ns) := by
  refine d.cal (k := 6) sc_l_put (fun vs H Q E h => ?_) (fun f cdv A outer s H vs Q E hr h => ?_)
  · match vs, h with
    | [.ref L, .ref KL, v, .int n], _ => rfl
  · match vs, h with
    | [.ref L, .ref KL, v, .int n], ⟨A, es, last, g, kv, nm, ⟨lg, ok, l30, l8, hn, hg, ga, gb, tk, eK, aK⟩, k⟩ =>
      refine ⟨_, (@pss_cons _ _ _ _ _ (@ps_set _ _ (4) _ _ _ _ sc_l_put.nd rfl (by first | exact Or.inl rfl | exact Or.inr rfl) (e_methV (dv 0) (mv_cons c_Ledger_put (List.Mem.head _) er.l_Ledger (by decide) mv_nil) hr (@pa_cons _ _ _ _ _ (dv 2) pa_nil (by rfl))) (by rfl) (by first | exact .inl rfl | exact .inr rfl | assumption)) (@pss_cons _ _ _ _ _ (@s_if _ _ _ _ _ _ _ _ (@L2.PW.pt _ _ _ (@w_or _ _ _ _ _ _ _ (@pt_not _ _ _ _ (@t_val _ _ _ (@pe_callB _ _ _ _ _ _ _ _ _ c_isi (by rfl) n_isinstance (by decide +kernel) (@pa_cons _ _ _ _ _ (dv 4) (@pa_cons _ _ _ _ _ (e_ty "tuple" (by rfl) n_tuple (by decide +kernel)) pa_nil (by rfl)) (by rfl)) (by decide) (by decide) (by rfl) (by rfl)) (by intro _; rfl))) (@w_or _ _ _ _ _ _ _ (@t_cmp _ _ _ _ _ _ _ _ o_ne (@pe_callB _ _ _ _ _ _ _ _ _ c_len (by rfl) n_len (by decide +kernel) (@pa_cons _ _ _ _ _ (dv 4) pa_nil (by rfl)) (by decide) (by decide) (by rfl) (by rfl)) pe_int (@nomark _ _ (by decide) (by decide))) (@w_or _ _ _ _ _ _ _ (@pt_not _ _ _ _ (@t_val _ _ _ (@e_call _ _ _ _ _ _ _ _ _ _ _ c_l_whole hr (by decide) (by rfl) (@pa_cons _ _ _ _ _ (@pe_ix _ _ _ _ _ _ _ i_tup (dv 4) pe_int (fun _ _ => rfl)) pa_nil (by rfl)) (by decide) (by rfl) (by rfl)) (by intro _; rfl))) (@pw_or1 _ _ _ _ (@t_cmp _ _ _ _ _ _ _ _ o_ne (@pe_ix _ _ _ _ _ _ _ i_tup (dv 4) pe_int (fun _ _ => rfl)) (dv 3) (@nomark _ _ (by decide) (by decide)))))))) (@pss_one _ _ _ (@ps_ret _ _ _ _ pe_bl)) pss_nil) (@pss_cons _ _ _ _ _ (@ps_expr _ _ _ _ (@pe_bm _ _ _ _ _ _ _ _ _ _ _ _ PySem.F.plainAttrs_list PySem.F.slot_list_append PySem.F.type_list_append mt_append (dv 1) (@pa_cons _ _ _ _ _ (@e_tup _ _ _ _ _ (@pa_cons _ _ _ _ _ (dv 3) (@pa_cons _ _ _ _ _ (dv 2) pa_nil (by rfl)) (by rfl))) pa_nil (by rfl)) (by rfl) (by rfl) (by rfl) (by rfl) (by rfl)) (by rfl)) (@pss_one _ _ _ (@ps_ret _ _ _ _ pe_bl))))), ?_⟩
      subst hn
      obtain ⟨pv, rfl, hpv⟩ := id hg
      obtain ⟨C, dx, fs, eL, hC, fd, kp⟩ := id lg
      have hCc := ns_inj' hC er.y_Ledger
      subst hCc
      refine ⟨L, _, dx, fs, _, rfl, eL, .head _, fd.pu, A, es, last, g, nm, ⟨lg, ok, by omega, l8, hg, ga, gb, tk⟩, fun r D H1 p fr nD er1 lg1 tk1 eD stb => ?_⟩
      have fl : (∀ b xs, H b = some (.lst xs) → H1 b = some (.lst xs)) ∧ Kt H H1 := by
        obtain ⟨_, _, _, eL, _, _, kvs, eA, _⟩ := id lg
        obtain ⟨ps, eT, _⟩ := id tk
        refine ⟨fun b xs e => fr b _ ?_ ?_ ?_ e, fun b xs e => fr b _ ?_ ?_ ?_ e⟩
        · exact fun z => by rw [z, eL] at e; cases e
        · exact fun z => by rw [z, eA] at e; cases e
        · exact fun z => by rw [z, eT] at e; cases e
        · exact fun z => by rw [z, eL] at e; cases e
        · exact fun z => by rw [z, eA] at e; cases e
        · exact fun z => by rw [z, eT] at e; cases e
      refine ⟨_, true, _, er1, rfl, rfl, ⟨fun h => nb h, fun _ => ⟨_, .inr (SqT.of er1), ⟨fun h => absurd h (by simp), fun _ => ⟨_, er1, ⟨fun h => nb h, fun _ => ⟨_, er1, ⟨fun h => absurd h (by simp), fun _ => ?_⟩⟩⟩⟩⟩⟩⟩⟩
      have eK1 := fl.1 _ _ eK
      refine ⟨.inl ⟨rfl, _, SqL.of eK1⟩, fun P H2 s2 e2 => ⟨KL, kv, _, rfl, rfl, s2 _ _ eK1, Nat.lt_of_le_of_lt (show kv.length ≤ 100 by rw [aK.len]; omega) (by decide), ?_⟩⟩
      have eK2 := s2 _ _ eK1
      have kt : Kt H2 (upd H2 KL (.lst (kv ++ [.ref P]))) := kt_upd eK2
      have kt02 := fl.2.trans ((kt_of s2).trans kt)
      refine k _ (kv ++ [.ref P]) (fun b o n1 n2 n3 n4 e => by rw [upd_ne n4]; exact s2 b o (fr b o n1 n2 n3 e)) ((lg1.up s2).sxl eK2) (tab_sx (tk1.up s2) Sx.upd (.inl ⟨_, eK2⟩)) upd_same ?_
      exact (aK.imp fun v e r => pn_up v e _ _ kt02 r).snoc ⟨P, pv, rfl, kt _ _ e2, kt02 _ _ hpv⟩
theorem good2 : GoodT [(0, 1, 2), (100, 2, 3)] := ⟨by decide, fun r hr => by
  rcases List.mem_cons.mp hr with rfl | hr
  · decide
  · rw [List.mem_singleton.mp hr]
    decide, rfl, by decide⟩
def pnd (e : En) : PyData := .tuple [.int e.1, .tuple [.int e.2.d, .str e.2.a, .str e.2.b, .int e.2.h, .int e.2.s]]
theorem rpl_pn {K : PySem.W.Frag} {H : Hp} : ∀ {vs : List V} {es : List En}, All2 (PnAt H) vs es → RpL K H vs (es.map pnd)
  | _, _, .nil => .nil
  | _, _, .cons ⟨t, p, z, h0, h1⟩ r => by
    subst z
    exact .cons (.tup (SqT.of h0) (.cons (.int _) (.cons (.tup (SqT.of h1) (.cons (.int _) (.cons (.str _) (.cons (.str _) (.cons (.int _) (.cons (.int _) .nil)))))) .nil))) (rpl_pn r)
theorem cl_pn : ∀ {es : List En}, (∀ e ∈ es, PyData.strOk e.2.a = true ∧ PyData.strOk e.2.b = true) → PyData.canLayAll0 (es.map pnd) = true
  | [], _ => rfl
  | e :: es, h => by
    obtain ⟨h1, h2⟩ := h e List.mem_cons_self
    show ((true && ((true && (PyData.strOk e.2.a && (PyData.strOk e.2.b && (true && (true && true))))) && true)) && PyData.canLayAll0 (es.map pnd)) = true
    rw [h1, h2, cl_pn fun e he => h e (List.mem_cons_of_mem _ he)]
    rfl
theorem dp_pn : ∀ (es : List En), PyData.depthAll (es.map pnd) ≤ 2
  | [] => Nat.zero_le _
  | e :: es => by
    have z : (pnd e).depth = 2 := rfl
    show max (pnd e).depth (PyData.depthAll (es.map pnd)) ≤ 2
    rw [z]
    have := dp_pn es
    omega
theorem sh_pn {es : List En} (h : ∀ e ∈ es, PyData.strOk e.2.a = true ∧ PyData.strOk e.2.b = true) : SeqAt.shaped (.list (es.map pnd)) = true := by
  unfold SeqAt.shaped
  have e : (PyData.list (es.map pnd)).depth = PyData.depthAll (es.map pnd) + 1 := rfl
  have := dp_pn es
  rw [show (PyData.list (es.map pnd)).canLay0 = true from cl_pn h, e, Bool.true_and]
  exact decide_eq_true (by omega)
theorem wo_idx : ∀ {es : List En}, EInc es → ∀ {i : Nat} {e : En}, es[i]? = some e → wo es e.1 = es.eraseIdx i
  | x :: es, h, 0, e, he => by
    have : x = e := Option.some.inj he
    subst this
    unfold wo
    rw [List.filter_cons_of_neg (by simp)]
    exact List.filter_eq_self.mpr fun y hy => by
      have := einc_no h y hy
      simpa using this
  | x :: es, h, i + 1, e, he => by
    have he : es[i]? = some e := he
    have ne := einc_no h e (List.mem_of_getElem? he)
    unfold wo
    rw [List.filter_cons_of_pos (by simpa using fun z => ne z.symm)]
    show x :: _ = x :: es.eraseIdx i
    rw [← wo_idx (List.pairwise_cons.mp h).2 he]
    rfl
theorem all2_erase {α β : Type} {R : α → β → Prop} : ∀ {l : List α} {m : List β} (i : Nat), All2 R l m → All2 R (l.eraseIdx i) (m.eraseIdx i)
  | _, _, _, .nil => .nil
  | _, _, 0, .cons _ t => t
  | _, _, i + 1, .cons h t => .cons h (all2_erase i t)
theorem fr3_lst {K : PySem.W.Frag} {L A T : Addr} {H H' : Hp} {es : List En} {last : Int} {pos : Pos} {q : Str} (h : Fr3 L A T H H') (lg : LgAt K H L A es last) (tk : TabOk H T pos q) : (∀ b xs, H b = some (.lst xs) → H' b = some (.lst xs)) ∧ Kt H H' := by
  obtain ⟨C, dx, fs, eL, _, _, kvs, eA, _⟩ := lg
  obtain ⟨ps, eT, _⟩ := tk
  refine ⟨fun b xs e => h b _ ?_ ?_ ?_ e, fun b xs e => h b _ ?_ ?_ ?_ e⟩
  · exact fun z => by rw [z, eL] at e; cases e
  · exact fun z => by rw [z, eA] at e; cases e
  · exact fun z => by rw [z, eT] at e; cases e
  · exact fun z => by rw [z, eL] at e; cases e
  · exact fun z => by rw [z, eA] at e; cases e
  · exact fun z => by rw [z, eT] at e; cases e
theorem seq_ix {u n : Nat} (h : u < n) : seqIndex? (u : Int) n = some u := by
  unfold seqIndex?
  simp only []
  rw [if_neg (show ¬ (u : Int) < 0 by omega)]
  rw [if_pos (by rw [Bool.and_eq_true]; exact ⟨decide_eq_true (by omega), decide_eq_true (by omega)⟩)]
  rfl
theorem LgAt.fr4 {K : PySem.W.Frag} {L A T X L' A' : Addr} {H H' : Hp} {es : List En} {last : Int} (h : LgAt K H L' A' es last) (fr : Fr4 L A T X H H') (kt : Kt H H') (n1 : L' ≠ L) (n2 : A' ≠ A) (n3 : L' ≠ A ∧ L' ≠ T ∧ L' ≠ X) (n4 : A' ≠ L ∧ A' ≠ T ∧ A' ≠ X) : LgAt K H' L' A' es last := by
  obtain ⟨C, dx, fs, eL, hC, fd, kvs, eA, al⟩ := h
  exact ⟨C, dx, fs, fr _ _ n1 n3.1 n3.2.1 n3.2.2 eL, hC, fd, kvs, fr _ _ n4.1 n2 n4.2.1 n4.2.2 eA, al.imp fun kv e r => en_up kv e _ _ kt r⟩
theorem LgAt.kinds {K : PySem.W.Frag} {H : Hp} {L A T X : Addr} {es : List En} {last : Int} {pos : Pos} {q : Str} {zs : List V} (h : LgAt K H L A es last) (tk : TabOk H T pos q) (e : H X = some (.lst zs)) : (L ≠ T ∧ L ≠ X ∧ A ≠ T ∧ A ≠ X) ∧ ∀ {L' A' es' last'}, LgAt K H L' A' es' last' → L ≠ A' ∧ A ≠ L' := by
  obtain ⟨C, dx, fs, eL, hC, fd, kvs, eA, al⟩ := h
  obtain ⟨ps, eT, _⟩ := tk
  refine ⟨⟨fun z => ?_, fun z => ?_, fun z => ?_, fun z => ?_⟩, fun ⟨_, _, _, eL', _, _, _, eA', _⟩ => ⟨fun z => ?_, fun z => ?_⟩⟩
  · rw [z, eT] at eL; cases eL
  · rw [z, e] at eL; cases eL
  · rw [z, eT] at eA; cases eA
  · rw [z, e] at eA; cases eA
  · rw [z, eA'] at eL; cases eL
  · rw [z, eL'] at eA; cases eA
def L1 (K : PySem.W.Frag) (nm : List Str) (H : Hp) (L A KL : Addr) (es : List En) (last : Int) : Prop := LgAt K H L A es last ∧ EsOk nm es last ∧ es.length ≤ 30 ∧ ∃ kv, H KL = some (.lst kv) ∧ All2 (PnAt H) kv es
theorem L1.smt {K : PySem.W.Frag} {nm : List Str} {T L A KL : Addr} {H H' : Hp} {es : List En} {last : Int} {pos : Pos} {q : Str} (sm : SmT T H H') (tk : TabOk H T pos q) (h : L1 K nm H L A KL es last) : L1 K nm H' L A KL es last := by
  obtain ⟨lg, ok, l30, kv, eK, aK⟩ := h
  obtain ⟨ps, tt, _⟩ := id tk
  have kt : Kt H H' := fun p xs e => sm p _ (fun z => by rw [z, tt] at e; cases e) e
  exact ⟨lg.smt sm tk, ok, l30, kv, sm _ _ (fun z => by rw [z, tt] at eK; cases eK) eK, aK.imp fun v e r => pn_up v e _ _ kt r⟩
theorem L1.up {K : PySem.W.Frag} {nm : List Str} {L A KL : Addr} {H H' : Hp} {es : List En} {last : Int} (s : Same H H') (h : L1 K nm H L A KL es last) : L1 K nm H' L A KL es last := by
  obtain ⟨lg, ok, l30, kv, eK, aK⟩ := h
  exact ⟨lg.up s, ok, l30, kv, s _ _ eK, aK.imp fun v e r => pn_up v e _ _ (kt_of s) r⟩
theorem fr4_kt {K : PySem.W.Frag} {L A T X : Addr} {H H' : Hp} {es : List En} {last : Int} {pos : Pos} {q : Str} {zs : List V} (fr : Fr4 L A T X H H') (lg : LgAt K H L A es last) (tk : TabOk H T pos q) (eX : H X = some (.lst zs)) : Kt H H' := by
  obtain ⟨C, dx, fs, eL, _, _, kvs, eA, _⟩ := lg
  obtain ⟨ps, eT, _⟩ := tk
  refine fun b xs e => fr b _ (fun z => ?_) (fun z => ?_) (fun z => ?_) (fun z => ?_) e
  · rw [z, eL] at e; cases e
  · rw [z, eA] at e; cases e
  · rw [z, eT] at e; cases e
  · rw [z, eX] at e; cases e
theorem fr4_n {L A T X : Addr} {N H H' : Hp} (h : Fr4 L A T X H H') (s : Same N H) (n1 : N L = none) (n2 : N A = none) (n3 : N T = none) (n4 : N X = none) : Same N H' := fun b o e => h b o (fun z => by rw [z, n1] at e; cases e) (fun z => by rw [z, n2] at e; cases e) (fun z => by rw [z, n3] at e; cases e) (fun z => by rw [z, n4] at e; cases e) (s b o e)
theorem L1.fr4 {K : PySem.W.Frag} {nm : List Str} {T L A X L' A' X' : Addr} {H H' : Hp} {es es' : List En} {last last' : Int} {pos : Pos} {q : Str} {zs : List V} (h : L1 K nm H L' A' X' es' last') (fr : Fr4 L A T X H H') (lg : LgAt K H L A es last) (tk : TabOk H T pos q) (eX : H X = some (.lst zs)) (n1 : L' ≠ L) (n2 : A' ≠ A) (n3 : X' ≠ X) : L1 K nm H' L' A' X' es' last' := by
  obtain ⟨lg', ok, l30, kv, eK, aK⟩ := h
  have kt := fr4_kt fr lg tk eX
  obtain ⟨⟨k1, k2, k3, k4⟩, k5⟩ := lg'.kinds tk eX
  obtain ⟨⟨_, j2, _, j4⟩, _⟩ := lg.kinds tk eK
  obtain ⟨ps, tt, _⟩ := id tk
  refine ⟨lg'.fr4 fr kt n1 n2 ⟨(k5 lg).1, k1, k2⟩ ⟨(k5 lg).2, k3, k4⟩, ok, l30, kv, fr _ _ (Ne.symm j2) (Ne.symm j4) (fun z => ?_) n3 eK, aK.imp fun v e r => pn_up v e _ _ kt r⟩
  rw [z, tt] at eK
  cases eK
theorem smt_n {T : Addr} {N H H' : Hp} (s : Same N H) (sm : SmT T H H') (n : N T = none) : Same N H' := fun b o e => sm b o (fun z => by rw [z, n] at e; cases e) (s b o e)
theorem sc_law : FnScope ["_law_script", "_law_rule", "_law_names_here", "_law_days", "_law_ledger", "_law_beside", "_law_kept", "_law_others", "_law_number", "_law_k", "_law_cell_here", "_law_at"] ["_law_script"] (defScope s_law) := ⟨rfl, rfl, rfl, by decide +kernel, rfl, by decide +kernel, by decide +kernel⟩
theorem ok_law (d : Dfn K mg "law" s_law ["_law_script"]) (er : Errs K mg c_Ledger c_NoTable c_Rule) (n_range : mg "range" = none) (n_min : mg "min" = none) (n_len : mg "len" = none)  (c_l_shown : Cal P w K mg base "_law_shown" ["_law_ledger", "_law_kept"] 5 (sp_l_shown K ns)) (c_l_put : Cal P w K mg base "_law_put" ["_law_ledger", "_law_kept", "_law_played", "_law_number"] 7 (sp_l_put K ns)) (c_l_game : Cal P w K mg base "_law_game" ["_law_cell_here", "_law_names_here", "_law_days"] 1 (sp_l_game K ns)) (c_Ledger_take : CalM P w K mg base [c_Ledger] [] "take" ["self", "number"] 6 (sp_Ledger_take K ns)) (c_l_cell : Cal P w K mg base "_law_cell" ["_law_script", "_law_k"] 1 (sp_l_cell K ns)) (c_Ledger___init__ : CalM P w K mg base [c_Ledger] [] "__init__" ["self", "rule"] 9 (sp_Ledger___init__ K ns)) (c_l_names : Cal P w K mg base "_law_names" ["_law_cell_here", "_law_many"] 1 (sp_l_names K ns)) (c_Rule___init__ : CalM P w K mg base [c_Rule] [] "__init__" ["self", "step", "first", "table"] 6 (sp_Rule___init__ K ns)) : Cal P w K mg base "law" ["_law_script"] 11 (sp_lawBT "in_order" K ns) := by
  refine d.cal (k := 10) sc_law (fun vs H Q E h => ?_) (fun f cdv A outer s H vs Q E hr h => ?_)
  · match vs, h with
    | [.ref a], _ => rfl
  · match vs, h with
    | [.ref a], ⟨hS, hl, hb, hT, k⟩ =>
      refine ⟨_, (@pss_cons _ _ _ _ _ (@ps_set _ _ (1) _ _ _ _ sc_law.nd rfl (by first | exact Or.inl rfl | exact Or.inr rfl) (e_make c_Rule___init__ (List.Mem.head _) er.m_Rule hr (by decide) (by rfl) er.b_Rule (@pa_cons _ _ _ _ _ (@pe_op _ _ _ _ _ _ _ _ o_mod (@e_call _ _ _ _ _ _ _ _ _ _ _ c_l_cell hr (by decide) (by rfl) (@pa_cons _ _ _ _ _ (dv 0) (@pa_cons _ _ _ _ _ pe_int pa_nil (by rfl)) (by rfl)) (by decide) (by rfl) (by rfl)) pe_int) (@pa_cons _ _ _ _ _ (@pe_op _ _ _ _ _ _ _ _ o_mod (@pe_op _ _ _ _ _ _ _ _ o_div (@e_call _ _ _ _ _ _ _ _ _ _ _ c_l_cell hr (by decide) (by rfl) (@pa_cons _ _ _ _ _ (dv 0) (@pa_cons _ _ _ _ _ pe_int pa_nil (by rfl)) (by rfl)) (by decide) (by rfl) (by rfl)) pe_int) pe_int) (@pa_cons _ _ _ _ _ (@e_lst _ _ _ _ (@pa_cons _ _ _ _ _ (@e_tup _ _ _ _ _ (@pa_cons _ _ _ _ _ pe_int (@pa_cons _ _ _ _ _ (@e_tup _ _ _ _ _ (@pa_cons _ _ _ _ _ pe_int (@pa_cons _ _ _ _ _ pe_int pa_nil (by rfl)) (by rfl))) pa_nil (by rfl)) (by rfl))) (@pa_cons _ _ _ _ _ (@e_tup _ _ _ _ _ (@pa_cons _ _ _ _ _ pe_int (@pa_cons _ _ _ _ _ (@e_tup _ _ _ _ _ (@pa_cons _ _ _ _ _ pe_int (@pa_cons _ _ _ _ _ pe_int pa_nil (by rfl)) (by rfl))) pa_nil (by rfl)) (by rfl))) pa_nil (by rfl)) (by rfl))) pa_nil (by rfl)) (by rfl)) (by rfl))) (by rfl) (by first | exact .inl rfl | exact .inr rfl | assumption)) (@pss_cons _ _ _ _ _ (@ps_set _ _ (2) _ _ _ _ sc_law.nd rfl (by first | exact Or.inl rfl | exact Or.inr rfl) (@e_call _ _ _ _ _ _ _ _ _ _ _ c_l_names hr (by decide) (by rfl) (@pa_cons _ _ _ _ _ (@e_call _ _ _ _ _ _ _ _ _ _ _ c_l_cell hr (by decide) (by rfl) (@pa_cons _ _ _ _ _ (dv 0) (@pa_cons _ _ _ _ _ pe_int pa_nil (by rfl)) (by rfl)) (by decide) (by rfl) (by rfl)) (@pa_cons _ _ _ _ _ (@pe_op _ _ _ _ _ _ _ _ o_add pe_int (@pe_op _ _ _ _ _ _ _ _ o_mod (@e_call _ _ _ _ _ _ _ _ _ _ _ c_l_cell hr (by decide) (by rfl) (@pa_cons _ _ _ _ _ (dv 0) (@pa_cons _ _ _ _ _ pe_int pa_nil (by rfl)) (by rfl)) (by decide) (by rfl) (by rfl)) pe_int)) pa_nil (by rfl)) (by rfl)) (by decide) (by rfl) (by rfl)) (by rfl) (by first | exact .inl rfl | exact .inr rfl | assumption)) (@ss_cutE _ _ _ _ _ (@ps_set _ _ (3) _ _ _ _ sc_law.nd rfl (by first | exact Or.inl rfl | exact Or.inr rfl) (@pe_ix _ _ _ _ _ _ _ i_lst (@e_lst _ _ _ _ (@pa_cons _ _ _ _ _ pe_int (@pa_cons _ _ _ _ _ pe_int (@pa_cons _ _ _ _ _ pe_int (@pa_cons _ _ _ _ _ pe_int pa_nil (by rfl)) (by rfl)) (by rfl)) (by rfl))) (@pe_op _ _ _ _ _ _ _ _ o_mod (@pe_op _ _ _ _ _ _ _ _ o_div (@e_call _ _ _ _ _ _ _ _ _ _ _ c_l_cell hr (by decide) (by rfl) (@pa_cons _ _ _ _ _ (dv 0) (@pa_cons _ _ _ _ _ pe_int pa_nil (by rfl)) (by rfl)) (by decide) (by rfl) (by rfl)) pe_int) pe_int) (fun _ _ => rfl)) (by rfl) (by first | exact .inl rfl | exact .inr rfl | assumption)) (@pss_cons _ _ _ _ _ (@ps_set _ _ (4) _ _ _ _ sc_law.nd rfl (by first | exact Or.inl rfl | exact Or.inr rfl) (e_make c_Ledger___init__ (List.Mem.head _) er.m_Ledger hr (by decide) (by rfl) er.b_Ledger (@pa_cons _ _ _ _ _ (dv 1) pa_nil (by rfl))) (by rfl) (by first | exact .inl rfl | exact .inr rfl | assumption)) (@pss_cons _ _ _ _ _ (@ps_set _ _ (5) _ _ _ _ sc_law.nd rfl (by first | exact Or.inl rfl | exact Or.inr rfl) (e_make c_Ledger___init__ (List.Mem.head _) er.m_Ledger hr (by decide) (by rfl) er.b_Ledger (@pa_cons _ _ _ _ _ (dv 1) pa_nil (by rfl))) (by rfl) (by first | exact .inl rfl | exact .inr rfl | assumption)) (@pss_cons _ _ _ _ _ (@ps_set _ _ (6) _ _ _ _ sc_law.nd rfl (by first | exact Or.inl rfl | exact Or.inr rfl) (@pe_lst _ _ _ _ pa_nil) (by rfl) (by first | exact .inl rfl | exact .inr rfl | assumption)) (@pss_cons _ _ _ _ _ (@ps_set _ _ (7) _ _ _ _ sc_law.nd rfl (by first | exact Or.inl rfl | exact Or.inr rfl) (@pe_lst _ _ _ _ pa_nil) (by rfl) (by first | exact .inl rfl | exact .inr rfl | assumption)) (@pss_cons _ _ _ _ _ (@ps_set _ _ (8) _ _ _ _ sc_law.nd rfl (by first | exact Or.inl rfl | exact Or.inr rfl) pe_int (by rfl) (by first | exact .inl rfl | exact .inr rfl | assumption)) (@pss_cons _ _ _ _ _ (@s_if _ _ _ _ _ _ _ _ (@pt_not _ _ _ _ (@t_val _ _ _ (@e_call _ _ _ _ _ _ _ _ _ _ _ c_l_shown hr (by decide) (by rfl) (@pa_cons _ _ _ _ _ (dv 4) (@pa_cons _ _ _ _ _ (dv 6) pa_nil (by rfl)) (by rfl)) (by decide) (by rfl) (by rfl)) (by intro _; rfl))) (@pss_one _ _ _ (@ps_ret _ _ _ _ pe_bl)) pss_nil) (@pss_cons _ _ _ _ _ (@ps_for _ _ _ _ _ _ _ _ PassesOwn.never rfl (@pi_range1 _ _ _ _ _ _ (by rfl) n_range (@pa_cons _ _ _ _ _ (@pe_callB _ _ _ _ _ _ _ _ _ (@call_min2 _ rfl) (by rfl) n_min (by decide +kernel) (@pa_cons _ _ _ _ _ pe_int (@pa_cons _ _ _ _ _ (@pe_op _ _ _ _ _ _ _ _ o_add pe_int (@pe_callB _ _ _ _ _ _ _ _ _ c_len (by rfl) n_len (by decide +kernel) (@pa_cons _ _ _ _ _ (dv 0) pa_nil (by rfl)) (by decide) (by decide) (by rfl) (by rfl))) pa_nil (by rfl)) (by rfl)) (by decide) (by decide) (by rfl) (by rfl)) pa_nil (by rfl)) (by rfl)) (@pg_name _ _ (9) _ sc_law.nd rfl (by first | exact Or.inl rfl | exact Or.inr rfl) (by first | exact .inl rfl | exact .inr rfl | assumption)) (@ss_cutE _ _ _ _ _ (@ps_set _ _ (10) _ _ _ _ sc_law.nd rfl (by first | exact Or.inl rfl | exact Or.inr rfl) (@pe_op _ _ _ _ _ _ _ _ o_mod (@e_call _ _ _ _ _ _ _ _ _ _ _ c_l_cell hr (by decide) (by rfl) (@pa_cons _ _ _ _ _ (dv 0) (@pa_cons _ _ _ _ _ (@pe_op _ _ _ _ _ _ _ _ o_add pe_int (dv 9)) pa_nil (by rfl)) (by rfl)) (by decide) (by rfl) (by rfl)) (@pe_op _ _ _ _ _ _ _ _ o_pow pe_int pe_int)) (by rfl) (by first | exact .inl rfl | exact .inr rfl | assumption)) (@ss_cutE _ _ _ _ _ (@s_if _ _ _ _ _ _ _ _ (@L2.PW.pt _ _ _ (@w_and _ _ _ _ _ _ _ (@t_cmp _ _ _ _ _ _ _ _ (@o_neD _ hr.units) (dv 6) (@pe_lst _ _ _ _ pa_nil) (@nomark _ _ (by decide) (by decide))) (@pw_and1 _ _ _ _ (@L2.PW.pt _ _ _ (@w_or _ _ _ _ _ _ _ (@t_cmp _ _ _ _ _ _ _ _ o_eq (@pe_op _ _ _ _ _ _ _ _ o_mod (dv 10) pe_int) pe_int (@nomark _ _ (by decide) (by decide))) (@pw_or1 _ _ _ _ (@t_cmp _ _ _ _ _ _ _ _ o_eq (@pe_callB _ _ _ _ _ _ _ _ _ c_len (by rfl) n_len (by decide +kernel) (@pa_cons _ _ _ _ _ (dv 6) pa_nil (by rfl)) (by decide) (by decide) (by rfl) (by rfl)) pe_int (@nomark _ _ (by decide) (by decide))))))))) (@pss_cons _ _ _ _ _ (@ps_set _ _ (11) _ _ _ _ sc_law.nd rfl (by first | exact Or.inl rfl | exact Or.inr rfl) (@pe_op _ _ _ _ _ _ _ _ o_mod (@pe_op _ _ _ _ _ _ _ _ o_div (dv 10) pe_int) (@pe_callB _ _ _ _ _ _ _ _ _ c_len (by rfl) n_len (by decide +kernel) (@pa_cons _ _ _ _ _ (dv 6) pa_nil (by rfl)) (by decide) (by decide) (by rfl) (by rfl))) (by rfl) (by first | exact .inl rfl | exact .inr rfl | assumption)) (@pss_cons _ _ _ _ _ (@ps_expr _ _ _ _ (e_methV (dv 4) (mv_cons c_Ledger_take (List.Mem.head _) er.l_Ledger (by decide) mv_nil) hr (@pa_cons _ _ _ _ _ (@pe_ix _ _ _ _ _ _ _ i_tup (@pe_ix _ _ _ _ _ _ _ i_lst (dv 6) (dv 11) (fun _ _ => rfl)) pe_int (fun _ _ => rfl)) pa_nil (by rfl))) (by rfl)) (@pss_one _ _ _ (@ps_expr _ _ _ _ (@pe_bm _ _ _ _ _ _ _ _ _ _ _ _ PySem.F.plainAttrs_list PySem.F.slot_list_pop PySem.F.type_list_pop mt_popAt (dv 6) (@pa_cons _ _ _ _ _ (dv 11) pa_nil (by rfl)) (by rfl) (by rfl) (by rfl) (by rfl) (by rfl)) (by rfl))))) (@pss_cons _ _ _ _ _ (@s_if _ _ _ _ _ _ _ _ (@pt_not _ _ _ _ (@t_val _ _ _ (@e_call _ _ _ _ _ _ _ _ _ _ _ c_l_put hr (by decide) (by rfl) (@pa_cons _ _ _ _ _ (dv 4) (@pa_cons _ _ _ _ _ (dv 6) (@pa_cons _ _ _ _ _ (@e_call _ _ _ _ _ _ _ _ _ _ _ c_l_game hr (by decide) (by rfl) (@pa_cons _ _ _ _ _ (@pe_op _ _ _ _ _ _ _ _ o_div (dv 10) pe_int) (@pa_cons _ _ _ _ _ (dv 2) (@pa_cons _ _ _ _ _ (dv 3) pa_nil (by rfl)) (by rfl)) (by rfl)) (by decide) (by rfl) (by rfl)) (@pa_cons _ _ _ _ _ (dv 8) pa_nil (by rfl)) (by rfl)) (by rfl)) (by rfl)) (by decide) (by rfl) (by rfl)) (by intro _; rfl))) (@pss_one _ _ _ (@ps_ret _ _ _ _ pe_bl)) pss_nil) (@pss_one _ _ _ (@ps_set _ _ (8) _ _ _ _ sc_law.nd rfl (by first | exact Or.inl rfl | exact Or.inr rfl) (@pe_op _ _ _ _ _ _ _ _ o_add (dv 8) pe_int) (by rfl) (by first | exact .inl rfl | exact .inr rfl | assumption))))) (@ss_cutE _ _ _ _ _ (@s_if _ _ _ _ _ _ _ _ (@L2.PW.pt _ _ _ (@w_and _ _ _ _ _ _ _ (@t_cmp _ _ _ _ _ _ _ _ o_eq (@pe_op _ _ _ _ _ _ _ _ o_mod (dv 10) pe_int) pe_int (@nomark _ _ (by decide) (by decide))) (@pw_and1 _ _ _ _ (@t_cmp _ _ _ _ _ _ _ _ o_lt (@pe_callB _ _ _ _ _ _ _ _ _ c_len (by rfl) n_len (by decide +kernel) (@pa_cons _ _ _ _ _ (dv 7) pa_nil (by rfl)) (by decide) (by decide) (by rfl) (by rfl)) pe_int (@nomark _ _ (by decide) (by decide)))))) (@pss_one _ _ _ (@s_if _ _ _ _ _ _ _ _ (@pt_not _ _ _ _ (@t_val _ _ _ (@e_call _ _ _ _ _ _ _ _ _ _ _ c_l_put hr (by decide) (by rfl) (@pa_cons _ _ _ _ _ (dv 5) (@pa_cons _ _ _ _ _ (dv 7) (@pa_cons _ _ _ _ _ (@e_call _ _ _ _ _ _ _ _ _ _ _ c_l_game hr (by decide) (by rfl) (@pa_cons _ _ _ _ _ (@pe_op _ _ _ _ _ _ _ _ o_div (dv 10) pe_int) (@pa_cons _ _ _ _ _ (dv 2) (@pa_cons _ _ _ _ _ (dv 3) pa_nil (by rfl)) (by rfl)) (by rfl)) (by decide) (by rfl) (by rfl)) (@pa_cons _ _ _ _ _ (@pe_op _ _ _ _ _ _ _ _ o_add pe_int (@pe_callB _ _ _ _ _ _ _ _ _ c_len (by rfl) n_len (by decide +kernel) (@pa_cons _ _ _ _ _ (dv 7) pa_nil (by rfl)) (by decide) (by decide) (by rfl) (by rfl))) pa_nil (by rfl)) (by rfl)) (by rfl)) (by rfl)) (by decide) (by rfl) (by rfl)) (by intro _; rfl))) (@pss_one _ _ _ (@ps_ret _ _ _ _ pe_bl)) pss_nil)) pss_nil) (@pss_one _ _ _ (@s_if _ _ _ _ _ _ _ _ (@pt_not _ _ _ _ (@t_val _ _ _ (@e_call _ _ _ _ _ _ _ _ _ _ _ c_l_shown hr (by decide) (by rfl) (@pa_cons _ _ _ _ _ (dv 4) (@pa_cons _ _ _ _ _ (dv 6) pa_nil (by rfl)) (by rfl)) (by decide) (by rfl) (by rfl)) (by intro _; rfl))) (@pss_one _ _ _ (@ps_ret _ _ _ _ pe_bl)) pss_nil))))) (by intro _; rfl)) (@pss_one _ _ _ (@ps_ret _ _ _ _ (@e_call _ _ _ _ _ _ _ _ _ _ _ c_l_shown hr (by decide) (by rfl) (@pa_cons _ _ _ _ _ (dv 5) (@pa_cons _ _ _ _ _ (dv 7) pa_nil (by rfl)) (by rfl)) (by decide) (by rfl) (by rfl)))))))))))))), ?_⟩
      have tk0 : TabOk H (T12 K) lp12 q12 := ⟨#[], hT, trivial, .inl rfl⟩
      refine ⟨hS, ⟨by decide, by decide, hb⟩, fun c1 => ⟨(by show (0 : Int) < 41; decide), hS, ⟨by decide, by decide, hb⟩, fun c2 => ⟨⟨by decide, bd_lit rfl⟩, (by show (0 : Int) < 3000; decide), ?_⟩⟩⟩
      refine fun T1 H1 s1 e1 => fun T2 H2 s2 e2 => fun T3 H3 s3 e3 => fun T4 H4 s4 e4 => fun P H5 s5 e5 => ?_
      intro x dx hx hd ne
      have s6 := mk_same (C := c_Rule) hx hd ne
      have e6 : upd (upd H5 dx (.own x)) x (.ins c_Rule dx []) x = some (.ins c_Rule dx []) := upd_same
      generalize upd (upd H5 dx (.own x)) x (.ins c_Rule dx []) = H6 at s6 e6
      have s46 := s5.trans s6
      have s26 := s3.trans (s4.trans s46)
      have a6 : All2 (RoAt H6) [.ref T2, .ref T4] [(0, 1, 2), (100, 2, 3)] := .cons ⟨T2, T1, rfl, s26 _ _ e2, s2.trans s26 _ _ e1⟩ (.cons ⟨T4, T3, rfl, s46 _ _ e4, s4.trans s46 _ _ e3⟩ .nil)
      refine ⟨_, dx, [], _, _, ⟨e6, er.l_Rule, er.na_Rule_step, er.na_Rule_first, er.na_Rule_table, by decide, s6 _ _ e5, a6, good2⟩, fun Tb' H7 s7 nT n7 eT7 ex7 => ⟨rfl, ?_⟩⟩
      have kt7 := s7.kt e6
      have a7 : All2 (RoAt H7) [.ref T2, .ref T4] [(0, 1, 2), (100, 2, 3)] := a6.imp fun v g r => ro_up v g _ _ kt7 r
      have s57 : Same H5 H7 := fun b o e => s7 b o (fun z => by rw [z, hx] at e; cases e) (s6 b o e)
      have s07 : Same H H7 := s1.trans (s2.trans (s3.trans (s4.trans (s5.trans s57))))
      clear s1 s2 s3 s4 s5 e1 e2 e3 e4 e5 s6 e6 a6 s26 s46 kt7 s7 s57 hx hd n7 nT
      refine ⟨s07.seq hS, ⟨by decide, by decide, hb⟩, fun c3 => ⟨s07.seq hS, ⟨by decide, by decide, hb⟩, fun c4 => ⟨(by show (0 : Int) < 7; decide), ?_⟩⟩⟩
      have y0 := Int.emod_nonneg c4 (show (7 : Int) ≠ 0 by decide)
      have y1 := Int.emod_lt_of_pos c4 (show (0 : Int) < 7 by decide)
      refine ⟨⟨by show 0 ≤ 2 + c4 % 7; omega, by show 2 + c4 % 7 ≤ 8; omega⟩, fun NL nm H8 s8 e8 l8 nd sok => ?_⟩
      have l8 : (nm.length : Int) = 2 + c4 % 7 := l8
      have s08 := s07.trans s8
      refine ⟨fun σ H' => ∃ ds : Int, σ = [some (.ref a), some (.ref x), some (.ref NL), some (.int ds), none, none, none, none, none, none, none, none] ∧ Same H8 H' ∧ 1 ≤ ds, ?_, ?_⟩
      · refine fun P H2 s2 e2 => ⟨(s08.trans s2).seq hS, ⟨by decide, by decide, hb⟩, fun c3 => ⟨⟨by decide, bd_lit rfl⟩, (by show (0 : Int) < 4; decide), ?_⟩⟩
        have : c3 / 7 % 4 = 0 ∨ c3 / 7 % 4 = 1 ∨ c3 / 7 % 4 = 2 ∨ c3 / 7 % 4 = 3 := by omega
        rcases this with z | z | z | z
        · exact ⟨_, .int 1, SqL.of e2, (by show atI _ (c3 / 7 % 4) = _; rw [z]; rfl), 1, rfl, s2, by decide⟩
        · exact ⟨_, .int 3, SqL.of e2, (by show atI _ (c3 / 7 % 4) = _; rw [z]; rfl), 3, rfl, s2, by decide⟩
        · exact ⟨_, .int 40, SqL.of e2, (by show atI _ (c3 / 7 % 4) = _; rw [z]; rfl), 40, rfl, s2, by decide⟩
        · exact ⟨_, .int 10000, SqL.of e2, (by show atI _ (c3 / 7 % 4) = _; rw [z]; rfl), 10000, rfl, s2, by decide⟩
      rintro σ H9 ⟨ds, rfl, s9, ds1⟩
      have s79 := s8.trans s9
      have s09 := s07.trans s79
      have tk9 := tk0.up s09
      have eR9 := s79 _ _ ex7
      have eT9 := s79 _ _ eT7
      have a9 : All2 (RoAt H9) [.ref T2, .ref T4] [(0, 1, 2), (100, 2, 3)] := a7.imp fun v g r => ro_up v g _ _ (kt_of s79) r
      have eN9 := s9 _ _ e8
      obtain ⟨ps, tt, _⟩ := id tk9
      obtain ⟨N, hN⟩ : ∃ N, N = off (T12 K) H9 := ⟨_, rfl⟩
      have sN9 : Same N H9 := hN ▸ off_same
      have eNN : N NL = some (.lst (nm.map V.str)) := hN ▸ off_at tt eN9 fun _ => nofun
      have hSN := off_sq tt (s09.seq hS)
      rw [← hN] at hSN
      have nT : N (T12 K) = none := by rw [hN]; unfold off; rw [if_pos rfl]
      have nN : ∀ {b : Addr}, H9 b = none → N b = none := fun h => hN ▸ off_none h
      clear hN tt s07 s79 s8 s9 e8 ex7 eT7 a7 s08
      intro L dxl hL hdl nel
      have s10 := mk_same (C := c_Ledger) hL hdl nel
      have e10 : upd (upd H9 dxl (.own L)) L (.ins c_Ledger dxl []) L = some (.ins c_Ledger dxl []) := upd_same
      generalize upd (upd H9 dxl (.own L)) L (.ins c_Ledger dxl []) = H10 at s10 e10
      refine ⟨_, dxl, _, dx, _, Tb', _, _, _, _, ⟨e10, er.y_Ledger, s10 _ _ eR9, .inl ⟨rfl, er.y_Rule⟩, fd0 rfl, lk_miss (by decide +kernel) (lk_miss (by decide +kernel) (lk_miss (by decide +kernel) rfl)), s10 _ _ eT9, a9.imp fun v g r => ro_up v g _ _ (kt_of s10) r, good2⟩, fun A H11 s11 nA lg11 => ⟨rfl, ?_⟩⟩
      have nLN := nN hL
      have nAN := nN (none_back s10 nA)
      have s911 : Same H9 H11 := fun b o e => s11 b o (fun z => by rw [z, hL] at e; cases e) (s10 b o e)
      intro L' dxm hL' hdm nem
      have s12 := mk_same (C := c_Ledger) hL' hdm nem
      have e12 : upd (upd H11 dxm (.own L')) L' (.ins c_Ledger dxm []) L' = some (.ins c_Ledger dxm []) := upd_same
      generalize upd (upd H11 dxm (.own L')) L' (.ins c_Ledger dxm []) = H12 at s12 e12
      have s912 := s911.trans s12
      refine ⟨_, dxm, _, dx, _, Tb', _, _, _, _, ⟨e12, er.y_Ledger, s912 _ _ eR9, .inl ⟨rfl, er.y_Rule⟩, fd0 rfl, lk_miss (by decide +kernel) (lk_miss (by decide +kernel) (lk_miss (by decide +kernel) rfl)), s912 _ _ eT9, a9.imp fun v g r => ro_up v g _ _ (kt_of s912) r, good2⟩, fun A' H13 s13 nA' lg13 => ⟨rfl, ?_⟩⟩
      have nLN' := nN (none_back s911 hL')
      have nAN' := nN (none_back s912 nA')
      have s1113 : Same H11 H13 := fun b o e => s13 b o (fun z => by rw [z, hL'] at e; cases e) (s12 b o e)
      have s913 := s911.trans s1113
      have nLL : L ≠ L' := fun z => by
        obtain ⟨_, _, _, eL, _⟩ := id lg11
        rw [z, hL'] at eL
        cases eL
      have nAA : A ≠ A' := fun z => by
        obtain ⟨_, _, _, _, _, _, _, eA, _⟩ := id lg11
        rw [z] at eA
        rw [s12 _ _ eA] at nA'
        cases nA'
      have lgA := lg11.up s1113
      have tk13 := tk9.up s913
      refine ⟨by decide, fun KL hKL => ?_⟩
      have s14 : Same H13 (upd H13 KL (.lst [])) := same_upd hKL
      have e14 : upd H13 KL (.lst []) KL = some (.lst []) := upd_same
      generalize upd H13 KL (.lst []) = H14 at s14 e14
      refine ⟨by decide, fun KM hKM => ?_⟩
      have s15 : Same H14 (upd H14 KM (.lst [])) := same_upd hKM
      have e15 : upd H14 KM (.lst []) KM = some (.lst []) := upd_same
      generalize upd H14 KM (.lst []) = H15 at s15 e15
      have nKN := nN (none_back s913 hKL)
      have nMN := nN (none_back s913 (none_back s14 hKM))
      have nKM : KL ≠ KM := fun z => by rw [← z, e14] at hKM; cases hKM
      have s1315 := s14.trans s15
      have ok0 : EsOk nm [] 0 := ⟨.nil, fun e h => by (cases h), fun e h => by (cases h)⟩
      have lA : L1 K nm H15 L A KL [] 0 := ⟨lgA.up s1315, ok0, by decide, [], s15 _ _ e14, .nil⟩
      have lB : L1 K nm H15 L' A' KM [] 0 := ⟨lg13.up s1315, ok0, by decide, [], e15, .nil⟩
      have sN15 := sN9.trans (s913.trans s1315)
      have tk15 := tk13.up s1315
      clear lgA lg11 lg13 tk13 s913 s1113 s912 s911 s10 s11 s12 s13 s14 s15 s1315 e10 e12 e14 e15 nA nA' hL hL' hKL hKM hdl hdm eR9 eT9 a9 eN9 sN9 tk9 tk0 s09
      have n8 : nm.length ≤ 8 := by omega
      have sok' : ∀ {es : List En} {last : Int}, EsOk nm es last → ∀ e ∈ es, PyData.strOk e.2.a = true ∧ PyData.strOk e.2.b = true := fun ok e he => ⟨sok _ (ok.mem e he).1, sok _ (ok.mem e he).2⟩
      obtain ⟨lgA, okA, lA30, kvA, eKA, aKA⟩ := id lA
      refine ⟨A, [], 0, kvA, ⟨lgA, by decide, tk15, eKA, aKA, sok' okA⟩, fun H16 sm16 tk16 => ⟨fun h => nb h, fun _ => ?_⟩⟩
      have sN16 := smt_n sN15 sm16 nT
      have lA := lA.smt sm16 tk15
      have lB := lB.smt sm16 tk15
      clear lgA okA lA30 kvA eKA aKA sN15 tk15 sm16
      refine ⟨_, .inl (sN16.seq hSN), 40, _, rfl, ?_⟩
      obtain ⟨M, hM⟩ : ∃ M : Int, M = if 4 + ((ns.map V.int).length : Int) < 40 then 4 + ((ns.map V.int).length : Int) else 40 := ⟨_, rfl⟩
      have M0 : 0 ≤ M ∧ M ≤ 40 := by
        rw [hM]
        split <;> omega
      refine ⟨M, congrArg (fun z => [V.int z]) hM.symm, by omega, by omega, for_range (lo := 0) (n := M.toNat) (fun i σ H' => ∃ (last last' : Int) (es es' : List En) (o9 o10 o11 : Option V), σ = [some (.ref a), some (.ref x), some (.ref NL), some (.int ds), some (.ref L), some (.ref L'), some (.ref KL), some (.ref KM), some (.int (last + 1)), o9, o10, o11] ∧ Same N H' ∧ TabOk H' (T12 K) lp12 q12 ∧ L1 K nm H' L A KL es last ∧ L1 K nm H' L' A' KM es' last' ∧ last' = (es'.length : Int)) ⟨0, 0, [], [], none, none, none, rfl, sN16, tk16, lA, lB, rfl⟩ ?_ ?_⟩
      · clear hM lA lB sN16 tk16
        rintro i σ H4 hi ⟨last, last', es, es', o9, o10, o11, rfl, sN, tk, lA, lB, el⟩
        have n15 : (0 : Int) < 10 ^ Int.toNat 15 := by decide
        refine ⟨fun σ H' => ∃ cc : Int, σ = [some (.ref a), some (.ref x), some (.ref NL), some (.int ds), some (.ref L), some (.ref L'), some (.ref KL), some (.ref KM), some (.int (last + 1)), some (.int (0 + (i : Int))), some (.int cc), o11] ∧ H' = H4, ⟨sN.seq hSN, ⟨by omega, by omega, hb⟩, fun c5 => ⟨⟨by decide, by decide, by decide⟩, n15, _, rfl, rfl⟩⟩, ?_⟩
        rintro σ H' ⟨cc, rfl, rfl⟩
        refine ⟨fun σ H' => ∃ (last : Int) (es : List En) (o11 : Option V), σ = [some (.ref a), some (.ref x), some (.ref NL), some (.int ds), some (.ref L), some (.ref L'), some (.ref KL), some (.ref KM), some (.int (last + 1)), some (.int (0 + (i : Int))), some (.int cc), o11] ∧ Same N H' ∧ TabOk H' (T12 K) lp12 q12 ∧ L1 K nm H' L A KL es last ∧ L1 K nm H' L' A' KM es' last', ?_, ?_⟩
        · obtain ⟨lg, ok, l30, kv, eK, aK⟩ := id lA
          refine ⟨by decide, fun Z hZ => ?_⟩
          have s5 : Same H' (upd H' Z (.lst [])) := same_upd hZ
          have e5 : upd H' Z (.lst []) Z = some (.lst []) := upd_same
          generalize upd H' Z (.lst []) = H5 at s5 e5
          have eK5 := s5 _ _ eK
          have aK5 := aK.imp fun v e r => pn_up v e _ _ (kt_of s5) r
          have lk := aK.len
          have lg5 := lg.up s5
          have tk5 := tk.up s5
          refine ⟨_, _, .lst (SqL.of eK5) (rpl_pn aK5), .lst (SqL.of e5) .nil, sh_pn (sok' ok), rfl, ⟨fun h1 => ⟨(by show (0 : Int) < 4; decide), ⟨fun h2 => ⟨fun _ => ?thn1, fun h => nb h⟩, fun h2 => ⟨_, .inl (SqL.of eK5), ⟨fun h3 => ?thn2, fun h3 => ?els2⟩⟩⟩⟩, fun h1 => ⟨fun h => nb h, fun _ => ?els1⟩⟩⟩
          case' els1 =>
            have l29 : es.length < 30 := by
              cases es with
              | nil => decide
              | cons e es => exact nb (show (!PyData.eqv (.list ((e :: es).map pnd)) (.list [])) = false from h1)
          case' els2 =>
            have l29 : es.length < 30 := by
              have h3 : ¬ (kv.length : Int) = 30 := by simpa using h3
              omega
          case' thn1 =>
            have ne : 0 < es.length := by
              cases es with
              | nil => exact nb (show (!PyData.eqv (.list ([].map pnd)) (.list [])) = true from h1)
              | cons e es => exact Nat.succ_pos _
          case' thn2 =>
            have ne : 0 < es.length := by
              cases es with
              | nil => exact nb (show (!PyData.eqv (.list ([].map pnd)) (.list [])) = true from h1)
              | cons e es => exact Nat.succ_pos _
          case els1 | els2 =>
            refine ⟨⟨by decide, bd_lit rfl⟩, nm, ⟨s5 _ _ (sN _ _ eNN), by omega, n8, nd, ds1⟩, fun v g H6 s6 hg ga gb ne h0 h2 => ?_⟩
            have s46 := s5.trans s6
            have eK6 := s46 _ _ eK
            refine ⟨A, es, last, g, kv, nm, ⟨lg.up s46, ok, l29, n8, rfl, hg, ga, gb, tk.up s46, eK6, aK.imp fun v e r => pn_up v e _ _ (kt_of s46) r⟩, fun H7 kv7 fr lg7 tk7 eK7 aK7 => ⟨fun h => nb h, fun _ => ?_⟩⟩
            have ok8 : EsOk nm (es ++ [(last + 1, g)]) (last + 1) := by
              refine ⟨List.pairwise_append.mpr ⟨ok.inc, List.pairwise_singleton .., fun a ha b hb => ?_⟩, fun e he => ?_, fun e he => ?_⟩
              · rw [List.mem_singleton.mp hb]
                have := ok.le a ha
                show a.1 < last + 1
                omega
              · rcases List.mem_append.mp he with h | h
                · have := ok.le e h
                  omega
                · rw [List.mem_singleton.mp h]
                  exact Int.le_refl _
              · rcases List.mem_append.mp he with h | h
                · exact ok.mem e h
                · rw [List.mem_singleton.mp h]
                  exact ⟨ga, gb⟩
            exact ⟨last + 1, es ++ [(last + 1, g)], _, rfl, fr4_n fr (sN.trans s46) nLN nAN nT nKN, tk7, ⟨lg7, ok8, by rw [List.length_append]; show es.length + 1 ≤ 30; omega, kv7, eK7, aK7⟩, (lB.up s46).fr4 fr (lg.up s46) (tk.up s46) eK6 (Ne.symm nLL) (Ne.symm nAA) (Ne.symm nKM)⟩
          case thn1 | thn2 =>
            refine ⟨⟨by decide, bd_lit rfl⟩, _, .inl (SqL.of eK5), by show 0 < (kv.length : Int); omega, ?_⟩
            have u0 := Int.emod_nonneg (cc / 4) (show (kv.length : Int) ≠ 0 by omega)
            have u1 := Int.emod_lt_of_pos (cc / 4) (show 0 < (kv.length : Int) by omega)
            obtain ⟨u, hu⟩ : ∃ u : Nat, cc / 4 % (kv.length : Int) = u := ⟨_, (Int.toNat_of_nonneg u0).symm⟩
            have ul : u < kv.length := by omega
            obtain ⟨e, he, t, pv, ev, ht, hpv⟩ := aK.get (List.getElem?_eq_getElem ul)
            obtain ⟨n, g0⟩ := e
            have mn := List.mem_of_getElem? he
            have ea : atI kv (cc / 4 % (kv.length : Int)) = some (.ref t) := by
              rw [hu]
              exact atI_nat (by rw [List.getElem?_eq_getElem ul, ev])
            obtain ⟨C, dxc, fs, eL, hC, fd, kp⟩ := id lg5
            have hCc := ns_inj' hC er.y_Ledger
            subst hCc
            refine ⟨L, _, dxc, fs, _, rfl, eL, .head _, fd.ta, _, _, SqL.of eK5, ea, _, s5 _ _ ht, A, es, last, g0, nm, ⟨lg5, ok, by omega, n8, mn, tk5⟩, fun Fd H7 p fr nFd lg7 tk7 eFd stb => ?_⟩
            obtain ⟨klF, ktF⟩ := fr3_lst fr lg5 tk5
            have eK7 := klF _ _ eK5
            refine ⟨.inl ⟨rfl, _, SqL.of eK7⟩, KL, kv, _, u, _, rfl, rfl, eK7, by omega, by omega, by (rw [hu]; exact seq_ix ul), List.getElem?_eq_getElem ul, ?_⟩
            have x8 : Sx KL H7 (upd H7 KL (.lst (kv.eraseIdx u))) := Sx.upd
            have kt8 : Kt H7 (upd H7 KL (.lst (kv.eraseIdx u))) := kt_upd eK7
            have kt48 : Kt H' (upd H7 KL (.lst (kv.eraseIdx u))) := (kt_of s5).trans (ktF.trans kt8)
            have wi : wo es n = es.eraseIdx u := wo_idx ok.inc he
            rw [wi] at lg7
            have subE : ∀ e ∈ es.eraseIdx u, e ∈ es := fun e he => List.mem_of_mem_eraseIdx he
            have ok8 : EsOk nm (es.eraseIdx u) last := ⟨ok.inc.sublist (List.eraseIdx_sublist ..), fun e he => ok.le e (subE e he), fun e he => ok.mem e (subE e he)⟩
            have le8 : (es.eraseIdx u).length ≤ es.length := (List.eraseIdx_sublist ..).length_le
            have fr4 : Fr4 L A (T12 K) KL H5 (upd H7 KL (.lst (kv.eraseIdx u))) := fun b o n1 n2 n3 n4 e => x8 b o n4 (fr b o n1 n2 n3 e)
            exact ⟨last, es.eraseIdx u, _, rfl, fr4_n fr4 (sN.trans s5) nLN nAN nT nKN, tab_sx tk7 x8 (.inl ⟨_, eK7⟩), ⟨lg7.sxl eK7, ok8, by omega, kv.eraseIdx u, upd_same, (all2_erase u aK).imp fun v e r => pn_up v e _ _ kt48 r⟩, (lB.up s5).fr4 fr4 lg5 tk5 eK5 (Ne.symm nLL) (Ne.symm nAA) (Ne.symm nKM)⟩
        clear sN tk lA lB
        rintro σ H6 ⟨last, es, o11, rfl, sN, tk, lA, lB⟩
        refine ⟨fun σ H' => ∃ (last' : Int) (es' : List En), σ = [some (.ref a), some (.ref x), some (.ref NL), some (.int ds), some (.ref L), some (.ref L'), some (.ref KL), some (.ref KM), some (.int (last + 1)), some (.int (0 + (i : Int))), some (.int cc), o11] ∧ Same N H' ∧ TabOk H' (T12 K) lp12 q12 ∧ L1 K nm H' L A KL es last ∧ L1 K nm H' L' A' KM es' last' ∧ last' = (es'.length : Int), ?_, ?_⟩
        · obtain ⟨lg, ok, l30, kv, eK, aK⟩ := id lB
          have lk := aK.len
          refine ⟨(by show (0 : Int) < 7; decide), ⟨fun h1 => ⟨_, .inl (SqL.of eK), ⟨fun h2 => ?_, fun h2 => ⟨last', es', rfl, sN, tk, lA, lB, el⟩⟩⟩, fun h1 => ⟨fun h => nb h, fun _ => ⟨last', es', rfl, sN, tk, lA, lB, el⟩⟩⟩⟩
          have h2 : (kv.length : Int) < 30 := of_decide_eq_true h2
          refine ⟨⟨by decide, bd_lit rfl⟩, nm, ⟨sN _ _ eNN, by omega, n8, nd, ds1⟩, fun v g H7 s7 hg ga gb ne h0 h2' => ?_⟩
          have eK7 := s7 _ _ eK
          refine ⟨_, .inl (SqL.of eK7), A', es', last', g, kv, nm, ⟨lg.up s7, ok, by omega, n8, by show 1 + (kv.length : Int) = last' + 1; omega, hg, ga, gb, tk.up s7, eK7, aK.imp fun v e r => pn_up v e _ _ (kt_of s7) r⟩, fun H8 kv8 fr lg8 tk8 eK8 aK8 => ⟨fun h => nb h, fun _ => ?_⟩⟩
          have ok8 : EsOk nm (es' ++ [(last' + 1, g)]) (last' + 1) := by
            refine ⟨List.pairwise_append.mpr ⟨ok.inc, List.pairwise_singleton .., fun a ha b hb => ?_⟩, fun e he => ?_, fun e he => ?_⟩
            · rw [List.mem_singleton.mp hb]
              have := ok.le a ha
              show a.1 < last' + 1
              omega
            · rcases List.mem_append.mp he with h | h
              · have := ok.le e h
                omega
              · rw [List.mem_singleton.mp h]
                exact Int.le_refl _
            · rcases List.mem_append.mp he with h | h
              · exact ok.mem e h
              · rw [List.mem_singleton.mp h]
                exact ⟨ga, gb⟩
          have l8 : (es' ++ [(last' + 1, g)]).length = es'.length + 1 := by rw [List.length_append]; rfl
          exact ⟨last' + 1, es' ++ [(last' + 1, g)], rfl, fr4_n fr (sN.trans s7) nLN' nAN' nT nMN, tk8, (lA.up s7).fr4 fr (lg.up s7) (tk.up s7) eK7 nLL nAA nKM, ⟨lg8, ok8, by omega, kv8, eK8, aK8⟩, by omega⟩
        clear sN tk lA lB el
        rintro σ H7 ⟨last', es', rfl, sN, tk, lA, lB, el⟩
        obtain ⟨lg, ok, l30, kv, eK, aK⟩ := id lA
        refine ⟨A, es, last, kv, ⟨lg, by omega, tk, eK, aK, sok' ok⟩, fun H8 sm tk8 => ⟨fun h => nb h, fun _ => ?_⟩⟩
        exact ⟨last, last', es, es', _, _, _, rfl, smt_n sN sm nT, tk8, lA.smt sm tk, lB.smt sm tk, el⟩
      rintro σ H4 ⟨last, last', es, es', o9, o10, o11, rfl, sN, tk, lA, lB, el⟩
      obtain ⟨lg, ok, l30, kv, eK, aK⟩ := id lB
      exact ⟨A', es', last', kv, ⟨lg, by omega, tk, eK, aK, sok' ok⟩, fun H8 sm tk8 => k H8⟩
theorem ok_all {ns : List Int} (d_is_whole : Dfn K mg "is_whole" s_is_whole ["thing"]) (d_fraction : Dfn K mg "fraction" s_fraction ["top", "bottom"]) (d_greatest_divisor : Dfn K mg "greatest_divisor" s_greatest_divisor ["one", "other"]) (d_under : Dfn K mg "under" s_under ["one", "other"]) (d_is_between : Dfn K mg "is_between" s_is_between ["thing", "least", "most"]) (d_check_size : Dfn K mg "check_size" s_check_size ["games"]) (d_in_order : Dfn K mg "in_order" s_in_order ["games"]) (d_players : Dfn K mg "players" s_players ["games"]) (d_Ledger___init__ : DfnM K [c_Ledger] [] "__init__" "Ledger.__init__" s_Ledger___init__ ["self", "rule"]) (d_Ledger_put : DfnM K [c_Ledger] [] "put" "Ledger.put" s_Ledger_put ["self", "played"]) (d_Ledger_take : DfnM K [c_Ledger] [] "take" "Ledger.take" s_Ledger_take ["self", "number"]) (d_Ledger_games : DfnM K [c_Ledger] [] "games" "Ledger.games" s_Ledger_games ["self"]) (d_reached : Dfn K mg "reached" s_reached ["kept", "number"]) (d_behind : Dfn K mg "behind" s_behind ["kept", "number"]) (d_table_of : Dfn K mg "table_of" s_table_of ["rows"]) (d_is_row : Dfn K mg "is_row" s_is_row ["thing"]) (d_is_pair : Dfn K mg "is_pair" s_is_pair ["thing"]) (d_is_share : Dfn K mg "is_share" s_is_share ["thing"]) (d_goes_on : Dfn K mg "goes_on" s_goes_on ["row", "later"]) (d_Rule___init__ : DfnM K [c_Rule] [] "__init__" "Rule.__init__" s_Rule___init__ ["self", "step", "first", "table"]) (d_Rule_twin : DfnM K [c_Rule] [] "twin" "Rule.twin" s_Rule_twin ["self"]) (d_l_cell : Dfn K mg "_law_cell" s_l_cell ["_law_script", "_law_k"]) (d_l_names : Dfn K mg "_law_names" s_l_names ["_law_cell_here", "_law_many"]) (d_l_game : Dfn K mg "_law_game" s_l_game ["_law_cell_here", "_law_names_here", "_law_days"]) (d_l_book : Dfn K mg "_law_book" s_l_book ["_law_kept"]) (d_l_whole : Dfn K mg "_law_whole" s_l_whole ["_law_found"]) (d_l_shown : Dfn K mg "_law_shown" s_l_shown ["_law_ledger", "_law_kept"]) (d_l_put : Dfn K mg "_law_put" s_l_put ["_law_ledger", "_law_kept", "_law_played", "_law_number"]) (d_law : Dfn K mg "law" s_law ["_law_script"]) (tk : TabK K mg base "in_order") (er : Errs K mg c_Ledger c_NoTable c_Rule) (n_abs : mg "abs" = none) (n_all : mg "all" = none) (n_bool : mg "bool" = none) (n_int : mg "int" = none) (n_isinstance : mg "isinstance" = none) (n_len : mg "len" = none) (n_list : mg "list" = none) (n_min : mg "min" = none) (n_range : mg "range" = none) (n_set : mg "set" = none) (n_sorted : mg "sorted" = none) (n_tuple : mg "tuple" = none) (n_zip : mg "zip" = none) (v_FIRST_ROW : Cst mg "FIRST_ROW" (.ref a_FIRST_ROW)) (w_FIRST_ROW : TupD K a_FIRST_ROW [.int (0), .ref b_FIRST_ROW_1]) (w_FIRST_ROW_1 : TupD K b_FIRST_ROW_1 [.int (1), .int (2)]) (v_LAST_FROM : Cst mg "LAST_FROM" (.int (1000000))) (v_MOST_GAMES : Cst mg "MOST_GAMES" (.int (40))) (v_MOST_PART : Cst mg "MOST_PART" (.int (9999))) (v_MOST_PLAYERS : Cst mg "MOST_PLAYERS" (.int (8))) (v_MOST_ROWS : Cst mg "MOST_ROWS" (.int (10))) : Cal P w K mg base "law" ["_law_script"] 11 (sp_lawBT "in_order" K ns) := by
  have c_is_whole : Cal P w K mg base "is_whole" ["thing"] 1 (sp_is_whole K ns) := ok_is_whole d_is_whole er n_isinstance n_bool n_int
  have c_greatest_divisor : Cal P w K mg base "greatest_divisor" ["one", "other"] 1 (sp_greatest_divisor K ns) := ok_greatest_divisor d_greatest_divisor er n_abs
  have c_under : Cal P w K mg base "under" ["one", "other"] 1 (sp_under K ns) := ok_under d_under er
  have c_players : Cal P w K mg base "players" ["games"] 1 (sp_players K ns) := ok_players d_players er n_sorted n_set
  have c_is_pair : Cal P w K mg base "is_pair" ["thing"] 1 (sp_is_pair K ns) := ok_is_pair d_is_pair er n_len n_isinstance n_tuple
  have c_l_cell : Cal P w K mg base "_law_cell" ["_law_script", "_law_k"] 1 (sp_l_cell K ns) := ok_l_cell d_l_cell er n_len
  have c_l_names : Cal P w K mg base "_law_names" ["_law_cell_here", "_law_many"] 1 (sp_l_names K ns) := ok_l_names d_l_names er n_range
  have c_l_game : Cal P w K mg base "_law_game" ["_law_cell_here", "_law_names_here", "_law_days"] 1 (sp_l_game K ns) := ok_l_game d_l_game er n_len
  have c_l_book : Cal P w K mg base "_law_book" ["_law_kept"] 1 (sp_l_book K ns) := ok_l_book d_l_book er n_len
  have c_l_whole : Cal P w K mg base "_law_whole" ["_law_found"] 1 (sp_l_whole K ns) := ok_l_whole d_l_whole er n_isinstance n_bool n_int
  have c_fraction : Cal P w K mg base "fraction" ["top", "bottom"] 2 (sp_fraction K ns) := ok_fraction d_fraction er c_greatest_divisor c_is_whole
  have c_is_between : Cal P w K mg base "is_between" ["thing", "least", "most"] 2 (sp_is_between K ns) := ok_is_between d_is_between er c_is_whole
  have c_check_size : Cal P w K mg base "check_size" ["games"] 2 (sp_check_size K ns) := ok_check_size d_check_size er n_len v_MOST_PLAYERS v_MOST_GAMES c_players
  have c_goes_on : Cal P w K mg base "goes_on" ["row", "later"] 2 (sp_goes_on K ns) := ok_goes_on d_goes_on er c_under
  have c_in_order : Cal P w K mg base "in_order" ["games"] 3 (sp_in_order K ns) := ok_in_order d_in_order tk er n_sorted
  have c_is_share : Cal P w K mg base "is_share" ["thing"] 3 (sp_is_share K ns) := ok_is_share d_is_share er v_MOST_PART c_fraction c_is_between c_is_pair
  have c_Ledger_games : CalM P w K mg base [c_Ledger] [] "games" ["self"] 4 (sp_Ledger_games K ns) := ok_Ledger_games d_Ledger_games er n_list c_in_order
  have c_behind : Cal P w K mg base "behind" ["kept", "number"] 4 (sp_behind K ns) := ok_behind d_behind er c_in_order
  have c_is_row : Cal P w K mg base "is_row" ["thing"] 4 (sp_is_row K ns) := ok_is_row d_is_row er v_LAST_FROM c_is_share c_is_between c_is_pair
  have c_reached : Cal P w K mg base "reached" ["kept", "number"] 5 (sp_reached K ns) := ok_reached d_reached er n_sorted n_set n_list c_behind
  have c_table_of : Cal P w K mg base "table_of" ["rows"] 5 (sp_table_of K ns) := ok_table_of d_table_of er n_list n_all n_zip n_len n_isinstance v_FIRST_ROW w_FIRST_ROW w_FIRST_ROW_1 v_MOST_ROWS c_goes_on c_is_row
  have c_l_shown : Cal P w K mg base "_law_shown" ["_law_ledger", "_law_kept"] 5 (sp_l_shown K ns) := ok_l_shown d_l_shown er n_len n_isinstance n_tuple n_list c_Ledger_games c_l_book
  have c_Ledger_put : CalM P w K mg base [c_Ledger] [] "put" ["self", "played"] 6 (sp_Ledger_put K ns) := ok_Ledger_put d_Ledger_put er n_list c_reached c_check_size
  have c_Ledger_take : CalM P w K mg base [c_Ledger] [] "take" ["self", "number"] 6 (sp_Ledger_take K ns) := ok_Ledger_take d_Ledger_take er c_reached
  have c_Rule___init__ : CalM P w K mg base [c_Rule] [] "__init__" ["self", "step", "first", "table"] 6 (sp_Rule___init__ K ns) := ok_Rule___init__ d_Rule___init__ er c_table_of
  have c_l_put : Cal P w K mg base "_law_put" ["_law_ledger", "_law_kept", "_law_played", "_law_number"] 7 (sp_l_put K ns) := ok_l_put d_l_put er n_len n_isinstance n_tuple c_l_whole c_Ledger_put
  have c_Rule_twin : CalM P w K mg base [c_Rule] [] "twin" ["self"] 8 (sp_Rule_twin K ns) := ok_Rule_twin d_Rule_twin er c_Rule___init__
  have c_Ledger___init__ : CalM P w K mg base [c_Ledger] [] "__init__" ["self", "rule"] 9 (sp_Ledger___init__ K ns) := ok_Ledger___init__ d_Ledger___init__ er c_Rule_twin
  have c_law : Cal P w K mg base "law" ["_law_script"] 11 (sp_lawBT "in_order" K ns) := ok_law d_law er n_range n_min n_len c_l_shown c_l_put c_l_game c_Ledger_take c_l_cell c_Ledger___init__ c_l_names c_Rule___init__
  exact c_law
end
theorem lenE1 : ∀ us : List Value, us.length = 1 → ∃ y0 : Value, us = [y0]
  | [y0], _ => ⟨_, rfl⟩
theorem lenE2 : ∀ us : List Value, us.length = 2 → ∃ y0 y1 : Value, us = [y0, y1]
  | [y0, y1], _ => ⟨_, _, rfl⟩
theorem lenE3 : ∀ us : List Value, us.length = 3 → ∃ y0 y1 y2 : Value, us = [y0, y1, y2]
  | [y0, y1, y2], _ => ⟨_, _, _, rfl⟩
theorem lenE4 : ∀ us : List Value, us.length = 4 → ∃ y0 y1 y2 y3 : Value, us = [y0, y1, y2, y3]
  | [y0, y1, y2, y3], _ => ⟨_, _, _, _, rfl⟩
theorem all_mk {l : PySem.W.OpenLaw} {w : World} {K : PySem.W.Frag} {h : Heap} {mg : Str → Option Value} {fa : Addr} {f0 : Addr} {od0 an0 : Option Addr} {sl0 : Array (Option Value)} {oc0 kV0 dc0 pm0 cd0 ct0 : Value} {f1 : Addr} {od1 an1 : Option Addr} {sl1 : Array (Option Value)} {oc1 kV1 dc1 pm1 cd1 ct1 : Value} {f2 : Addr} {od2 an2 : Option Addr} {sl2 : Array (Option Value)} {oc2 kV2 dc2 pm2 cd2 ct2 : Value} {f3 : Addr} {od3 an3 : Option Addr} {sl3 : Array (Option Value)} {oc3 kV3 dc3 pm3 cd3 ct3 : Value} {f4 : Addr} {od4 an4 : Option Addr} {sl4 : Array (Option Value)} {oc4 kV4 dc4 pm4 cd4 ct4 : Value} {f5 : Addr} {od5 an5 : Option Addr} {sl5 : Array (Option Value)} {oc5 kV5 dc5 pm5 cd5 ct5 : Value} {f6 : Addr} {od6 an6 : Option Addr} {sl6 : Array (Option Value)} {oc6 kV6 dc6 pm6 ct6 : Value} {f7 : Addr} {od7 an7 : Option Addr} {sl7 : Array (Option Value)} {oc7 kV7 dc7 pm7 cd7 ct7 : Value} {f8 : Addr} {od8 an8 : Option Addr} {sl8 : Array (Option Value)} {oc8 kV8 dc8 pm8 cd8 ct8 : Value} {f9 : Addr} {od9 an9 : Option Addr} {sl9 : Array (Option Value)} {oc9 kV9 dc9 pm9 cd9 ct9 : Value} {f10 : Addr} {od10 an10 : Option Addr} {sl10 : Array (Option Value)} {oc10 kV10 dc10 pm10 cd10 ct10 : Value} {f11 : Addr} {od11 an11 : Option Addr} {sl11 : Array (Option Value)} {oc11 kV11 dc11 pm11 cd11 ct11 : Value} {f12 : Addr} {od12 an12 : Option Addr} {sl12 : Array (Option Value)} {oc12 kV12 dc12 pm12 cd12 ct12 : Value} {f13 : Addr} {od13 an13 : Option Addr} {sl13 : Array (Option Value)} {oc13 kV13 dc13 pm13 cd13 ct13 : Value} {f14 : Addr} {od14 an14 : Option Addr} {sl14 : Array (Option Value)} {oc14 kV14 dc14 pm14 cd14 ct14 : Value} {f15 : Addr} {od15 an15 : Option Addr} {sl15 : Array (Option Value)} {oc15 kV15 dc15 pm15 cd15 ct15 : Value} {f16 : Addr} {od16 an16 : Option Addr} {sl16 : Array (Option Value)} {oc16 kV16 dc16 pm16 cd16 ct16 : Value} {f17 : Addr} {od17 an17 : Option Addr} {sl17 : Array (Option Value)} {oc17 kV17 dc17 pm17 cd17 ct17 : Value} {f18 : Addr} {od18 an18 : Option Addr} {sl18 : Array (Option Value)} {oc18 kV18 dc18 pm18 cd18 ct18 : Value} {f19 : Addr} {od19 an19 : Option Addr} {sl19 : Array (Option Value)} {oc19 kV19 dc19 pm19 cd19 ct19 : Value} {f20 : Addr} {od20 an20 : Option Addr} {sl20 : Array (Option Value)} {oc20 kV20 dc20 pm20 cd20 ct20 : Value} {f21 : Addr} {od21 an21 : Option Addr} {sl21 : Array (Option Value)} {oc21 kV21 dc21 pm21 cd21 ct21 : Value} {f22 : Addr} {od22 an22 : Option Addr} {sl22 : Array (Option Value)} {oc22 kV22 dc22 pm22 cd22 ct22 : Value} {f23 : Addr} {od23 an23 : Option Addr} {sl23 : Array (Option Value)} {oc23 kV23 dc23 pm23 cd23 ct23 : Value} {f24 : Addr} {od24 an24 : Option Addr} {sl24 : Array (Option Value)} {oc24 kV24 dc24 pm24 cd24 ct24 : Value} {f25 : Addr} {od25 an25 : Option Addr} {sl25 : Array (Option Value)} {oc25 kV25 dc25 pm25 cd25 ct25 : Value} {f26 : Addr} {od26 an26 : Option Addr} {sl26 : Array (Option Value)} {oc26 kV26 dc26 pm26 cd26 ct26 : Value} {f27 : Addr} {od27 an27 : Option Addr} {sl27 : Array (Option Value)} {oc27 kV27 dc27 pm27 cd27 ct27 : Value} {f28 : Addr} {od28 an28 : Option Addr} {sl28 : Array (Option Value)} {oc28 kV28 dc28 pm28 cd28 ct28 : Value} {ts : List Addr} {cc tP : Addr} {vsC : Array Value} {clC : Value} {cdC : Option Addr} {slC : Array (Option Value)} {c_Ledger c_NoTable c_Rule : Addr} {a_FIRST_ROW : Addr} {n_FIRST_ROW : Nat} {sl_FIRST_ROW : Array (Option Value)} {t_FIRST_ROW_0 : Tok} {b_FIRST_ROW_1 : Addr} {n_FIRST_ROW_1 : Nat} {sl_FIRST_ROW_1 : Array (Option Value)} {t_FIRST_ROW_1_0 t_FIRST_ROW_1_1 : Tok} {t_LAST_FROM : Tok} {t_MOST_GAMES : Tok} {t_MOST_PART : Tok} {t_MOST_PLAYERS : Tok} {t_MOST_ROWS : Tok} (X : K.In h) (G : h.Ns mainGlobals mg) (hfa : mg "law" = some (.ref fa)) (a0 : PySem.W.nsIn K mainGlobals "is_whole" = some (some (.ref f0))) (l0 : K.lookup f0 = some ⟨oc0, od0, .func (PySem.W.fnOf "is_whole" "is_whole" (defArgs s_is_whole) (defBody s_is_whole) (defScope s_is_whole) .none kV0 dc0 pm0 an0 cd0 ct0), sl0⟩) (e0 : PySem.W.codeIn K cd0 "is_whole" = true) (k0 : PySem.W.keepIn K (.ref f0) = true) (a1 : PySem.W.nsIn K mainGlobals "fraction" = some (some (.ref f1))) (l1 : K.lookup f1 = some ⟨oc1, od1, .func (PySem.W.fnOf "fraction" "fraction" (defArgs s_fraction) (defBody s_fraction) (defScope s_fraction) .none kV1 dc1 pm1 an1 cd1 ct1), sl1⟩) (e1 : PySem.W.codeIn K cd1 "fraction" = true) (k1 : PySem.W.keepIn K (.ref f1) = true) (a2 : PySem.W.nsIn K mainGlobals "greatest_divisor" = some (some (.ref f2))) (l2 : K.lookup f2 = some ⟨oc2, od2, .func (PySem.W.fnOf "greatest_divisor" "greatest_divisor" (defArgs s_greatest_divisor) (defBody s_greatest_divisor) (defScope s_greatest_divisor) .none kV2 dc2 pm2 an2 cd2 ct2), sl2⟩) (e2 : PySem.W.codeIn K cd2 "greatest_divisor" = true) (k2 : PySem.W.keepIn K (.ref f2) = true) (a3 : PySem.W.nsIn K mainGlobals "under" = some (some (.ref f3))) (l3 : K.lookup f3 = some ⟨oc3, od3, .func (PySem.W.fnOf "under" "under" (defArgs s_under) (defBody s_under) (defScope s_under) .none kV3 dc3 pm3 an3 cd3 ct3), sl3⟩) (e3 : PySem.W.codeIn K cd3 "under" = true) (k3 : PySem.W.keepIn K (.ref f3) = true) (a4 : PySem.W.nsIn K mainGlobals "is_between" = some (some (.ref f4))) (l4 : K.lookup f4 = some ⟨oc4, od4, .func (PySem.W.fnOf "is_between" "is_between" (defArgs s_is_between) (defBody s_is_between) (defScope s_is_between) .none kV4 dc4 pm4 an4 cd4 ct4), sl4⟩) (e4 : PySem.W.codeIn K cd4 "is_between" = true) (k4 : PySem.W.keepIn K (.ref f4) = true) (a5 : PySem.W.nsIn K mainGlobals "check_size" = some (some (.ref f5))) (l5 : K.lookup f5 = some ⟨oc5, od5, .func (PySem.W.fnOf "check_size" "check_size" (defArgs s_check_size) (defBody s_check_size) (defScope s_check_size) .none kV5 dc5 pm5 an5 cd5 ct5), sl5⟩) (e5 : PySem.W.codeIn K cd5 "check_size" = true) (k5 : PySem.W.keepIn K (.ref f5) = true) (a6 : PySem.W.nsIn K mainGlobals "in_order" = some (some (.ref f6))) (l6 : K.lookup f6 = some ⟨oc6, od6, .func (PySem.W.fnOf "in_order" "in_order" (defArgs s_in_order) (defBody s_in_order) (defScope s_in_order) .none kV6 dc6 pm6 an6 (.ref cc) ct6), sl6⟩) (e6 : PySem.W.codeIn K (.ref cc) "in_order" = true) (k6 : PySem.W.keepIn K (.ref f6) = true) (a7 : PySem.W.nsIn K mainGlobals "players" = some (some (.ref f7))) (l7 : K.lookup f7 = some ⟨oc7, od7, .func (PySem.W.fnOf "players" "players" (defArgs s_players) (defBody s_players) (defScope s_players) .none kV7 dc7 pm7 an7 cd7 ct7), sl7⟩) (e7 : PySem.W.codeIn K cd7 "players" = true) (k7 : PySem.W.keepIn K (.ref f7) = true) (a8_Ledger : PySem.W.findIn K (.ref c_Ledger) "__init__" = some (some (.ref f8))) (i8 : PySem.W.isFn K (.ref f8) = true) (l8 : K.lookup f8 = some ⟨oc8, od8, .func (PySem.W.fnOf "__init__" "Ledger.__init__" (defArgs s_Ledger___init__) (defBody s_Ledger___init__) (defScope s_Ledger___init__) .none kV8 dc8 pm8 an8 cd8 ct8), sl8⟩) (e8 : PySem.W.codeIn K cd8 "Ledger.__init__" = true) (k8 : PySem.W.keepIn K (.ref f8) = true) (a9_Ledger : PySem.W.findIn K (.ref c_Ledger) "put" = some (some (.ref f9))) (i9 : PySem.W.isFn K (.ref f9) = true) (l9 : K.lookup f9 = some ⟨oc9, od9, .func (PySem.W.fnOf "put" "Ledger.put" (defArgs s_Ledger_put) (defBody s_Ledger_put) (defScope s_Ledger_put) .none kV9 dc9 pm9 an9 cd9 ct9), sl9⟩) (e9 : PySem.W.codeIn K cd9 "Ledger.put" = true) (k9 : PySem.W.keepIn K (.ref f9) = true) (a10_Ledger : PySem.W.findIn K (.ref c_Ledger) "take" = some (some (.ref f10))) (i10 : PySem.W.isFn K (.ref f10) = true) (l10 : K.lookup f10 = some ⟨oc10, od10, .func (PySem.W.fnOf "take" "Ledger.take" (defArgs s_Ledger_take) (defBody s_Ledger_take) (defScope s_Ledger_take) .none kV10 dc10 pm10 an10 cd10 ct10), sl10⟩) (e10 : PySem.W.codeIn K cd10 "Ledger.take" = true) (k10 : PySem.W.keepIn K (.ref f10) = true) (a11_Ledger : PySem.W.findIn K (.ref c_Ledger) "games" = some (some (.ref f11))) (i11 : PySem.W.isFn K (.ref f11) = true) (l11 : K.lookup f11 = some ⟨oc11, od11, .func (PySem.W.fnOf "games" "Ledger.games" (defArgs s_Ledger_games) (defBody s_Ledger_games) (defScope s_Ledger_games) .none kV11 dc11 pm11 an11 cd11 ct11), sl11⟩) (e11 : PySem.W.codeIn K cd11 "Ledger.games" = true) (k11 : PySem.W.keepIn K (.ref f11) = true) (a12 : PySem.W.nsIn K mainGlobals "reached" = some (some (.ref f12))) (l12 : K.lookup f12 = some ⟨oc12, od12, .func (PySem.W.fnOf "reached" "reached" (defArgs s_reached) (defBody s_reached) (defScope s_reached) .none kV12 dc12 pm12 an12 cd12 ct12), sl12⟩) (e12 : PySem.W.codeIn K cd12 "reached" = true) (k12 : PySem.W.keepIn K (.ref f12) = true) (a13 : PySem.W.nsIn K mainGlobals "behind" = some (some (.ref f13))) (l13 : K.lookup f13 = some ⟨oc13, od13, .func (PySem.W.fnOf "behind" "behind" (defArgs s_behind) (defBody s_behind) (defScope s_behind) .none kV13 dc13 pm13 an13 cd13 ct13), sl13⟩) (e13 : PySem.W.codeIn K cd13 "behind" = true) (k13 : PySem.W.keepIn K (.ref f13) = true) (a14 : PySem.W.nsIn K mainGlobals "table_of" = some (some (.ref f14))) (l14 : K.lookup f14 = some ⟨oc14, od14, .func (PySem.W.fnOf "table_of" "table_of" (defArgs s_table_of) (defBody s_table_of) (defScope s_table_of) .none kV14 dc14 pm14 an14 cd14 ct14), sl14⟩) (e14 : PySem.W.codeIn K cd14 "table_of" = true) (k14 : PySem.W.keepIn K (.ref f14) = true) (a15 : PySem.W.nsIn K mainGlobals "is_row" = some (some (.ref f15))) (l15 : K.lookup f15 = some ⟨oc15, od15, .func (PySem.W.fnOf "is_row" "is_row" (defArgs s_is_row) (defBody s_is_row) (defScope s_is_row) .none kV15 dc15 pm15 an15 cd15 ct15), sl15⟩) (e15 : PySem.W.codeIn K cd15 "is_row" = true) (k15 : PySem.W.keepIn K (.ref f15) = true) (a16 : PySem.W.nsIn K mainGlobals "is_pair" = some (some (.ref f16))) (l16 : K.lookup f16 = some ⟨oc16, od16, .func (PySem.W.fnOf "is_pair" "is_pair" (defArgs s_is_pair) (defBody s_is_pair) (defScope s_is_pair) .none kV16 dc16 pm16 an16 cd16 ct16), sl16⟩) (e16 : PySem.W.codeIn K cd16 "is_pair" = true) (k16 : PySem.W.keepIn K (.ref f16) = true) (a17 : PySem.W.nsIn K mainGlobals "is_share" = some (some (.ref f17))) (l17 : K.lookup f17 = some ⟨oc17, od17, .func (PySem.W.fnOf "is_share" "is_share" (defArgs s_is_share) (defBody s_is_share) (defScope s_is_share) .none kV17 dc17 pm17 an17 cd17 ct17), sl17⟩) (e17 : PySem.W.codeIn K cd17 "is_share" = true) (k17 : PySem.W.keepIn K (.ref f17) = true) (a18 : PySem.W.nsIn K mainGlobals "goes_on" = some (some (.ref f18))) (l18 : K.lookup f18 = some ⟨oc18, od18, .func (PySem.W.fnOf "goes_on" "goes_on" (defArgs s_goes_on) (defBody s_goes_on) (defScope s_goes_on) .none kV18 dc18 pm18 an18 cd18 ct18), sl18⟩) (e18 : PySem.W.codeIn K cd18 "goes_on" = true) (k18 : PySem.W.keepIn K (.ref f18) = true) (a19_Rule : PySem.W.findIn K (.ref c_Rule) "__init__" = some (some (.ref f19))) (i19 : PySem.W.isFn K (.ref f19) = true) (l19 : K.lookup f19 = some ⟨oc19, od19, .func (PySem.W.fnOf "__init__" "Rule.__init__" (defArgs s_Rule___init__) (defBody s_Rule___init__) (defScope s_Rule___init__) .none kV19 dc19 pm19 an19 cd19 ct19), sl19⟩) (e19 : PySem.W.codeIn K cd19 "Rule.__init__" = true) (k19 : PySem.W.keepIn K (.ref f19) = true) (a20_Rule : PySem.W.findIn K (.ref c_Rule) "twin" = some (some (.ref f20))) (i20 : PySem.W.isFn K (.ref f20) = true) (l20 : K.lookup f20 = some ⟨oc20, od20, .func (PySem.W.fnOf "twin" "Rule.twin" (defArgs s_Rule_twin) (defBody s_Rule_twin) (defScope s_Rule_twin) .none kV20 dc20 pm20 an20 cd20 ct20), sl20⟩) (e20 : PySem.W.codeIn K cd20 "Rule.twin" = true) (k20 : PySem.W.keepIn K (.ref f20) = true) (a21 : PySem.W.nsIn K mainGlobals "_law_cell" = some (some (.ref f21))) (l21 : K.lookup f21 = some ⟨oc21, od21, .func (PySem.W.fnOf "_law_cell" "_law_cell" (defArgs s_l_cell) (defBody s_l_cell) (defScope s_l_cell) .none kV21 dc21 pm21 an21 cd21 ct21), sl21⟩) (e21 : PySem.W.codeIn K cd21 "_law_cell" = true) (k21 : PySem.W.keepIn K (.ref f21) = true) (a22 : PySem.W.nsIn K mainGlobals "_law_names" = some (some (.ref f22))) (l22 : K.lookup f22 = some ⟨oc22, od22, .func (PySem.W.fnOf "_law_names" "_law_names" (defArgs s_l_names) (defBody s_l_names) (defScope s_l_names) .none kV22 dc22 pm22 an22 cd22 ct22), sl22⟩) (e22 : PySem.W.codeIn K cd22 "_law_names" = true) (k22 : PySem.W.keepIn K (.ref f22) = true) (a23 : PySem.W.nsIn K mainGlobals "_law_game" = some (some (.ref f23))) (l23 : K.lookup f23 = some ⟨oc23, od23, .func (PySem.W.fnOf "_law_game" "_law_game" (defArgs s_l_game) (defBody s_l_game) (defScope s_l_game) .none kV23 dc23 pm23 an23 cd23 ct23), sl23⟩) (e23 : PySem.W.codeIn K cd23 "_law_game" = true) (k23 : PySem.W.keepIn K (.ref f23) = true) (a24 : PySem.W.nsIn K mainGlobals "_law_book" = some (some (.ref f24))) (l24 : K.lookup f24 = some ⟨oc24, od24, .func (PySem.W.fnOf "_law_book" "_law_book" (defArgs s_l_book) (defBody s_l_book) (defScope s_l_book) .none kV24 dc24 pm24 an24 cd24 ct24), sl24⟩) (e24 : PySem.W.codeIn K cd24 "_law_book" = true) (k24 : PySem.W.keepIn K (.ref f24) = true) (a25 : PySem.W.nsIn K mainGlobals "_law_whole" = some (some (.ref f25))) (l25 : K.lookup f25 = some ⟨oc25, od25, .func (PySem.W.fnOf "_law_whole" "_law_whole" (defArgs s_l_whole) (defBody s_l_whole) (defScope s_l_whole) .none kV25 dc25 pm25 an25 cd25 ct25), sl25⟩) (e25 : PySem.W.codeIn K cd25 "_law_whole" = true) (k25 : PySem.W.keepIn K (.ref f25) = true) (a26 : PySem.W.nsIn K mainGlobals "_law_shown" = some (some (.ref f26))) (l26 : K.lookup f26 = some ⟨oc26, od26, .func (PySem.W.fnOf "_law_shown" "_law_shown" (defArgs s_l_shown) (defBody s_l_shown) (defScope s_l_shown) .none kV26 dc26 pm26 an26 cd26 ct26), sl26⟩) (e26 : PySem.W.codeIn K cd26 "_law_shown" = true) (k26 : PySem.W.keepIn K (.ref f26) = true) (a27 : PySem.W.nsIn K mainGlobals "_law_put" = some (some (.ref f27))) (l27 : K.lookup f27 = some ⟨oc27, od27, .func (PySem.W.fnOf "_law_put" "_law_put" (defArgs s_l_put) (defBody s_l_put) (defScope s_l_put) .none kV27 dc27 pm27 an27 cd27 ct27), sl27⟩) (e27 : PySem.W.codeIn K cd27 "_law_put" = true) (k27 : PySem.W.keepIn K (.ref f27) = true) (a28 : PySem.W.nsIn K mainGlobals "law" = some (some (.ref f28))) (l28 : K.lookup f28 = some ⟨oc28, od28, .func (PySem.W.fnOf "law" "law" (defArgs s_law) (defBody s_law) (defScope s_law) .none kV28 dc28 pm28 an28 cd28 ct28), sl28⟩) (e28 : PySem.W.codeIn K cd28 "law" = true) (k28 : PySem.W.keepIn K (.ref f28) = true) (z_abs : PySem.W.nsIn K mainGlobals "abs" = some none) (z_all : PySem.W.nsIn K mainGlobals "all" = some none) (z_bool : PySem.W.nsIn K mainGlobals "bool" = some none) (z_int : PySem.W.nsIn K mainGlobals "int" = some none) (z_isinstance : PySem.W.nsIn K mainGlobals "isinstance" = some none) (z_len : PySem.W.nsIn K mainGlobals "len" = some none) (z_list : PySem.W.nsIn K mainGlobals "list" = some none) (z_min : PySem.W.nsIn K mainGlobals "min" = some none) (z_range : PySem.W.nsIn K mainGlobals "range" = some none) (z_set : PySem.W.nsIn K mainGlobals "set" = some none) (z_sorted : PySem.W.nsIn K mainGlobals "sorted" = some none) (z_tuple : PySem.W.nsIn K mainGlobals "tuple" = some none) (z_zip : PySem.W.nsIn K mainGlobals "zip" = some none) (t1 : K.lookup cc = some ⟨clC, cdC, .fields vsC, slC⟩) (t2 : (vsC[11]? : Option Value) = some (.ref tP)) (t3 : PySem.W.codeHdIn K cc tP = true) (t4 : K.lookup tP = none) (t8 : tP ∈ ts) (y_Ledger : PySem.W.nsIn K mainGlobals "Ledger" = some (some (.ref c_Ledger))) (y_NoTable : PySem.W.nsIn K mainGlobals "NoTable" = some (some (.ref c_NoTable))) (y_Rule : PySem.W.nsIn K mainGlobals "Rule" = some (some (.ref c_Rule))) (q_NoTable_nw : PySem.W.excIn K c_NoTable vB "ValueError.__new__" = true) (q_NoTable_ga : PySem.W.findIn K (.ref c_NoTable) "__getattribute__" = some (some (.builtin "BaseException.__getattribute__"))) (q_NoTable_gn : PySem.W.findIn K (.ref c_NoTable) "__getattr__" = some none) (q_NoTable_cl : PySem.W.findIn K (.ref c_NoTable) "__class__" = some (some (.builtin "object.__class__"))) (q_NoTable_mo : PySem.W.mroIn K c_NoTable (.type "object") = some true) (q_NoTable_mb : PySem.W.mroIn K c_NoTable (.type "BaseException") = some true) (kv_NoTable : PySem.W.kitOne K (.ref c_NoTable) (.type "ValueError") = some true) (kk_NoTable_Ledger : PySem.W.kitOne K (.ref c_NoTable) (.ref c_Ledger) = some false) (kk_NoTable_NoTable : PySem.W.kitOne K (.ref c_NoTable) (.ref c_NoTable) = some true) (kk_NoTable_Rule : PySem.W.kitOne K (.ref c_NoTable) (.ref c_Rule) = some false) (lp_Ledger : PySem.W.plainGet K c_Ledger Str.empty = true) (lh_Ledger : PySem.W.hasDictIn K c_Ledger = true) (lo_Ledger : PySem.W.plainOver K c_Ledger = true) (ls_Ledger : PySem.W.findIn K (.ref c_Ledger) "__setattr__" = some (some (.builtin "object.__setattr__"))) (mm_Ledger : PySem.W.makesIn K c_Ledger = true) (mk_Ledger : PySem.W.keepIn K (.ref c_Ledger) = true) (na_first_Ledger : PySem.W.findIn K (.ref c_Ledger) "first" = some none) (na_kept_Ledger : PySem.W.findIn K (.ref c_Ledger) "kept" = some none) (na_last_Ledger : PySem.W.findIn K (.ref c_Ledger) "last" = some none) (na_rule_Ledger : PySem.W.findIn K (.ref c_Ledger) "rule" = some none) (na_step_Ledger : PySem.W.findIn K (.ref c_Ledger) "step" = some none) (na_table_Ledger : PySem.W.findIn K (.ref c_Ledger) "table" = some none) (lp_Rule : PySem.W.plainGet K c_Rule Str.empty = true) (lh_Rule : PySem.W.hasDictIn K c_Rule = true) (lo_Rule : PySem.W.plainOver K c_Rule = true) (ls_Rule : PySem.W.findIn K (.ref c_Rule) "__setattr__" = some (some (.builtin "object.__setattr__"))) (mm_Rule : PySem.W.makesIn K c_Rule = true) (mk_Rule : PySem.W.keepIn K (.ref c_Rule) = true) (na_first_Rule : PySem.W.findIn K (.ref c_Rule) "first" = some none) (na_kept_Rule : PySem.W.findIn K (.ref c_Rule) "kept" = some none) (na_last_Rule : PySem.W.findIn K (.ref c_Rule) "last" = some none) (na_rule_Rule : PySem.W.findIn K (.ref c_Rule) "rule" = some none) (na_step_Rule : PySem.W.findIn K (.ref c_Rule) "step" = some none) (na_table_Rule : PySem.W.findIn K (.ref c_Rule) "table" = some none) (u_FIRST_ROW : PySem.W.nsIn K mainGlobals "FIRST_ROW" = some (some (.ref a_FIRST_ROW))) (p_FIRST_ROW : K.lookup a_FIRST_ROW = some ⟨.type "tuple", none, .seq #[.int (0) t_FIRST_ROW_0, .ref b_FIRST_ROW_1] n_FIRST_ROW, sl_FIRST_ROW⟩) (p_FIRST_ROW_1 : K.lookup b_FIRST_ROW_1 = some ⟨.type "tuple", none, .seq #[.int (1) t_FIRST_ROW_1_0, .int (2) t_FIRST_ROW_1_1] n_FIRST_ROW_1, sl_FIRST_ROW_1⟩) (u_LAST_FROM : PySem.W.nsIn K mainGlobals "LAST_FROM" = some (some (.int (1000000) t_LAST_FROM))) (u_MOST_GAMES : PySem.W.nsIn K mainGlobals "MOST_GAMES" = some (some (.int (40) t_MOST_GAMES))) (u_MOST_PART : PySem.W.nsIn K mainGlobals "MOST_PART" = some (some (.int (9999) t_MOST_PART))) (u_MOST_PLAYERS : PySem.W.nsIn K mainGlobals "MOST_PLAYERS" = some (some (.int (8) t_MOST_PLAYERS))) (u_MOST_ROWS : PySem.W.nsIn K mainGlobals "MOST_ROWS" = some (some (.int (10) t_MOST_ROWS))) :
    (∃ c P, PySem.W.tabIn K "in_order" = some (c, P) ∧ PySem.W.codeHdIn K c P = true ∧ K.lookup P = none ∧ P ∈ ts) ∧ ∃ fd : FuncData, (∀ (s : Shared) (v : Value), BindsTo s fd ⟨[v], []⟩ [("_law_script", v)]) ∧ ∀ base : Heap, K.In base → base.Ns mainGlobals mg → BmB mg base → FnOk l.prog w K mg base (CXE l.prog w) 11 fa fd ["_law_script"] (sp_lawABT "in_order" K) := by
  have F0 := fun_mk (st := s_is_whole) l0 e0 k0
  have d0 : Dfn K mg "is_whole" s_is_whole ["thing"] := ⟨⟨_, _, F0, PySem.W.mg_of X G a0, F0.binds fun _ _ _ _ _ _ us hl => by obtain ⟨_, rfl⟩ := lenE1 us hl; rfl⟩⟩
  have F1 := fun_mk (st := s_fraction) l1 e1 k1
  have d1 : Dfn K mg "fraction" s_fraction ["top", "bottom"] := ⟨⟨_, _, F1, PySem.W.mg_of X G a1, F1.binds fun _ _ _ _ _ _ us hl => by obtain ⟨_, _, rfl⟩ := lenE2 us hl; rfl⟩⟩
  have F2 := fun_mk (st := s_greatest_divisor) l2 e2 k2
  have d2 : Dfn K mg "greatest_divisor" s_greatest_divisor ["one", "other"] := ⟨⟨_, _, F2, PySem.W.mg_of X G a2, F2.binds fun _ _ _ _ _ _ us hl => by obtain ⟨_, _, rfl⟩ := lenE2 us hl; rfl⟩⟩
  have F3 := fun_mk (st := s_under) l3 e3 k3
  have d3 : Dfn K mg "under" s_under ["one", "other"] := ⟨⟨_, _, F3, PySem.W.mg_of X G a3, F3.binds fun _ _ _ _ _ _ us hl => by obtain ⟨_, _, rfl⟩ := lenE2 us hl; rfl⟩⟩
  have F4 := fun_mk (st := s_is_between) l4 e4 k4
  have d4 : Dfn K mg "is_between" s_is_between ["thing", "least", "most"] := ⟨⟨_, _, F4, PySem.W.mg_of X G a4, F4.binds fun _ _ _ _ _ _ us hl => by obtain ⟨_, _, _, rfl⟩ := lenE3 us hl; rfl⟩⟩
  have F5 := fun_mk (st := s_check_size) l5 e5 k5
  have d5 : Dfn K mg "check_size" s_check_size ["games"] := ⟨⟨_, _, F5, PySem.W.mg_of X G a5, F5.binds fun _ _ _ _ _ _ us hl => by obtain ⟨_, rfl⟩ := lenE1 us hl; rfl⟩⟩
  have F6 := fun_mk (st := s_in_order) l6 e6 k6
  have d6 : Dfn K mg "in_order" s_in_order ["games"] := ⟨⟨_, _, F6, PySem.W.mg_of X G a6, F6.binds fun _ _ _ _ _ _ us hl => by obtain ⟨_, rfl⟩ := lenE1 us hl; rfl⟩⟩
  have F7 := fun_mk (st := s_players) l7 e7 k7
  have d7 : Dfn K mg "players" s_players ["games"] := ⟨⟨_, _, F7, PySem.W.mg_of X G a7, F7.binds fun _ _ _ _ _ _ us hl => by obtain ⟨_, rfl⟩ := lenE1 us hl; rfl⟩⟩
  have F8 := fun_mk (st := s_Ledger___init__) l8 e8 k8
  have d8 : DfnM K [c_Ledger] [] "__init__" "Ledger.__init__" s_Ledger___init__ ["self", "rule"] := ⟨⟨_, _, F8, (ac_cons ⟨a8_Ledger, i8, k8⟩ ac_nil), ac_nil, F8.binds fun _ _ _ _ _ _ us hl => by obtain ⟨_, _, rfl⟩ := lenE2 us hl; rfl⟩⟩
  have F9 := fun_mk (st := s_Ledger_put) l9 e9 k9
  have d9 : DfnM K [c_Ledger] [] "put" "Ledger.put" s_Ledger_put ["self", "played"] := ⟨⟨_, _, F9, (ac_cons ⟨a9_Ledger, i9, k9⟩ ac_nil), ac_nil, F9.binds fun _ _ _ _ _ _ us hl => by obtain ⟨_, _, rfl⟩ := lenE2 us hl; rfl⟩⟩
  have F10 := fun_mk (st := s_Ledger_take) l10 e10 k10
  have d10 : DfnM K [c_Ledger] [] "take" "Ledger.take" s_Ledger_take ["self", "number"] := ⟨⟨_, _, F10, (ac_cons ⟨a10_Ledger, i10, k10⟩ ac_nil), ac_nil, F10.binds fun _ _ _ _ _ _ us hl => by obtain ⟨_, _, rfl⟩ := lenE2 us hl; rfl⟩⟩
  have F11 := fun_mk (st := s_Ledger_games) l11 e11 k11
  have d11 : DfnM K [c_Ledger] [] "games" "Ledger.games" s_Ledger_games ["self"] := ⟨⟨_, _, F11, (ac_cons ⟨a11_Ledger, i11, k11⟩ ac_nil), ac_nil, F11.binds fun _ _ _ _ _ _ us hl => by obtain ⟨_, rfl⟩ := lenE1 us hl; rfl⟩⟩
  have F12 := fun_mk (st := s_reached) l12 e12 k12
  have d12 : Dfn K mg "reached" s_reached ["kept", "number"] := ⟨⟨_, _, F12, PySem.W.mg_of X G a12, F12.binds fun _ _ _ _ _ _ us hl => by obtain ⟨_, _, rfl⟩ := lenE2 us hl; rfl⟩⟩
  have F13 := fun_mk (st := s_behind) l13 e13 k13
  have d13 : Dfn K mg "behind" s_behind ["kept", "number"] := ⟨⟨_, _, F13, PySem.W.mg_of X G a13, F13.binds fun _ _ _ _ _ _ us hl => by obtain ⟨_, _, rfl⟩ := lenE2 us hl; rfl⟩⟩
  have F14 := fun_mk (st := s_table_of) l14 e14 k14
  have d14 : Dfn K mg "table_of" s_table_of ["rows"] := ⟨⟨_, _, F14, PySem.W.mg_of X G a14, F14.binds fun _ _ _ _ _ _ us hl => by obtain ⟨_, rfl⟩ := lenE1 us hl; rfl⟩⟩
  have F15 := fun_mk (st := s_is_row) l15 e15 k15
  have d15 : Dfn K mg "is_row" s_is_row ["thing"] := ⟨⟨_, _, F15, PySem.W.mg_of X G a15, F15.binds fun _ _ _ _ _ _ us hl => by obtain ⟨_, rfl⟩ := lenE1 us hl; rfl⟩⟩
  have F16 := fun_mk (st := s_is_pair) l16 e16 k16
  have d16 : Dfn K mg "is_pair" s_is_pair ["thing"] := ⟨⟨_, _, F16, PySem.W.mg_of X G a16, F16.binds fun _ _ _ _ _ _ us hl => by obtain ⟨_, rfl⟩ := lenE1 us hl; rfl⟩⟩
  have F17 := fun_mk (st := s_is_share) l17 e17 k17
  have d17 : Dfn K mg "is_share" s_is_share ["thing"] := ⟨⟨_, _, F17, PySem.W.mg_of X G a17, F17.binds fun _ _ _ _ _ _ us hl => by obtain ⟨_, rfl⟩ := lenE1 us hl; rfl⟩⟩
  have F18 := fun_mk (st := s_goes_on) l18 e18 k18
  have d18 : Dfn K mg "goes_on" s_goes_on ["row", "later"] := ⟨⟨_, _, F18, PySem.W.mg_of X G a18, F18.binds fun _ _ _ _ _ _ us hl => by obtain ⟨_, _, rfl⟩ := lenE2 us hl; rfl⟩⟩
  have F19 := fun_mk (st := s_Rule___init__) l19 e19 k19
  have d19 : DfnM K [c_Rule] [] "__init__" "Rule.__init__" s_Rule___init__ ["self", "step", "first", "table"] := ⟨⟨_, _, F19, (ac_cons ⟨a19_Rule, i19, k19⟩ ac_nil), ac_nil, F19.binds fun _ _ _ _ _ _ us hl => by obtain ⟨_, _, _, _, rfl⟩ := lenE4 us hl; rfl⟩⟩
  have F20 := fun_mk (st := s_Rule_twin) l20 e20 k20
  have d20 : DfnM K [c_Rule] [] "twin" "Rule.twin" s_Rule_twin ["self"] := ⟨⟨_, _, F20, (ac_cons ⟨a20_Rule, i20, k20⟩ ac_nil), ac_nil, F20.binds fun _ _ _ _ _ _ us hl => by obtain ⟨_, rfl⟩ := lenE1 us hl; rfl⟩⟩
  have F21 := fun_mk (st := s_l_cell) l21 e21 k21
  have d21 : Dfn K mg "_law_cell" s_l_cell ["_law_script", "_law_k"] := ⟨⟨_, _, F21, PySem.W.mg_of X G a21, F21.binds fun _ _ _ _ _ _ us hl => by obtain ⟨_, _, rfl⟩ := lenE2 us hl; rfl⟩⟩
  have F22 := fun_mk (st := s_l_names) l22 e22 k22
  have d22 : Dfn K mg "_law_names" s_l_names ["_law_cell_here", "_law_many"] := ⟨⟨_, _, F22, PySem.W.mg_of X G a22, F22.binds fun _ _ _ _ _ _ us hl => by obtain ⟨_, _, rfl⟩ := lenE2 us hl; rfl⟩⟩
  have F23 := fun_mk (st := s_l_game) l23 e23 k23
  have d23 : Dfn K mg "_law_game" s_l_game ["_law_cell_here", "_law_names_here", "_law_days"] := ⟨⟨_, _, F23, PySem.W.mg_of X G a23, F23.binds fun _ _ _ _ _ _ us hl => by obtain ⟨_, _, _, rfl⟩ := lenE3 us hl; rfl⟩⟩
  have F24 := fun_mk (st := s_l_book) l24 e24 k24
  have d24 : Dfn K mg "_law_book" s_l_book ["_law_kept"] := ⟨⟨_, _, F24, PySem.W.mg_of X G a24, F24.binds fun _ _ _ _ _ _ us hl => by obtain ⟨_, rfl⟩ := lenE1 us hl; rfl⟩⟩
  have F25 := fun_mk (st := s_l_whole) l25 e25 k25
  have d25 : Dfn K mg "_law_whole" s_l_whole ["_law_found"] := ⟨⟨_, _, F25, PySem.W.mg_of X G a25, F25.binds fun _ _ _ _ _ _ us hl => by obtain ⟨_, rfl⟩ := lenE1 us hl; rfl⟩⟩
  have F26 := fun_mk (st := s_l_shown) l26 e26 k26
  have d26 : Dfn K mg "_law_shown" s_l_shown ["_law_ledger", "_law_kept"] := ⟨⟨_, _, F26, PySem.W.mg_of X G a26, F26.binds fun _ _ _ _ _ _ us hl => by obtain ⟨_, _, rfl⟩ := lenE2 us hl; rfl⟩⟩
  have F27 := fun_mk (st := s_l_put) l27 e27 k27
  have d27 : Dfn K mg "_law_put" s_l_put ["_law_ledger", "_law_kept", "_law_played", "_law_number"] := ⟨⟨_, _, F27, PySem.W.mg_of X G a27, F27.binds fun _ _ _ _ _ _ us hl => by obtain ⟨_, _, _, _, rfl⟩ := lenE4 us hl; rfl⟩⟩
  have F28 := fun_mk (st := s_law) l28 e28 k28
  have d28 : Dfn K mg "law" s_law ["_law_script"] := ⟨⟨_, _, F28, PySem.W.mg_of X G a28, F28.binds fun _ _ _ _ _ _ us hl => by obtain ⟨_, rfl⟩ := lenE1 us hl; rfl⟩⟩
  have e := hfa.symm.trans (PySem.W.mg_of X G a28)
  cases e
  have tb := tab_in (x := "in_order") a6 l6 rfl t1 t2
  have tk : ∀ base, BmB mg base → TabK K mg base "in_order" := fun base hbm => ⟨⟨_, _, _, _, _, cc, PySem.W.mg_of X G a6, l6, rfl, by rw [tabP_eq tb]; exact t3⟩, hbm⟩
  refine ⟨⟨_, _, tb, t3, t4, t8⟩, ?_⟩
  exact ⟨PySem.W.fnOf "law" "law" (defArgs s_law) (defBody s_law) (defScope s_law) .none kV28 dc28 pm28 an28 cd28 ct28, fun s v => .of_eq rfl, fun base _ _ hbm => law_fnBT F28 (PySem.W.mg_of X G a28) fun ns => ok_all (ns := ns) d0 d1 d2 d3 d4 d5 d6 d7 d8 d9 d10 d11 d12 d13 d14 d15 d16 d17 d18 d19 d20 d21 d22 d23 d24 d25 d26 d27 d28 (tk base hbm) ⟨PySem.W.mg_of X G y_Ledger, PySem.W.mg_of X G y_NoTable, PySem.W.mg_of X G y_Rule, y_NoTable, ⟨q_NoTable_nw, q_NoTable_ga, q_NoTable_gn, q_NoTable_cl, q_NoTable_mo, q_NoTable_mb⟩, kv_NoTable, kk_NoTable_Ledger, kk_NoTable_NoTable, kk_NoTable_Rule, y_Ledger, ⟨lp_Ledger, lh_Ledger, lo_Ledger, ls_Ledger⟩, ⟨mm_Ledger, mk_Ledger⟩, na_first_Ledger, na_kept_Ledger, na_last_Ledger, na_rule_Ledger, na_step_Ledger, na_table_Ledger, y_Rule, ⟨lp_Rule, lh_Rule, lo_Rule, ls_Rule⟩, ⟨mm_Rule, mk_Rule⟩, na_first_Rule, na_kept_Rule, na_last_Rule, na_rule_Rule, na_step_Rule, na_table_Rule⟩ (PySem.W.mg_none_of X G z_abs) (PySem.W.mg_none_of X G z_all) (PySem.W.mg_none_of X G z_bool) (PySem.W.mg_none_of X G z_int) (PySem.W.mg_none_of X G z_isinstance) (PySem.W.mg_none_of X G z_len) (PySem.W.mg_none_of X G z_list) (PySem.W.mg_none_of X G z_min) (PySem.W.mg_none_of X G z_range) (PySem.W.mg_none_of X G z_set) (PySem.W.mg_none_of X G z_sorted) (PySem.W.mg_none_of X G z_tuple) (PySem.W.mg_none_of X G z_zip) ⟨_, PySem.W.mg_of X G u_FIRST_ROW, rfl⟩ ⟨fun H => .inr ⟨_, _, _, p_FIRST_ROW, rfl, rfl, (by show 2 ≤ sizeLine; decide), (Paired.cons ⟨_, rfl⟩ (Paired.cons rfl Paired.nil))⟩, ⟨_, p_FIRST_ROW, rfl, rfl⟩⟩ ⟨fun H => .inr ⟨_, _, _, p_FIRST_ROW_1, rfl, rfl, (by show 2 ≤ sizeLine; decide), (Paired.cons ⟨_, rfl⟩ (Paired.cons ⟨_, rfl⟩ Paired.nil))⟩, ⟨_, p_FIRST_ROW_1, rfl, rfl⟩⟩ ⟨_, PySem.W.mg_of X G u_LAST_FROM, ⟨_, rfl⟩⟩ ⟨_, PySem.W.mg_of X G u_MOST_GAMES, ⟨_, rfl⟩⟩ ⟨_, PySem.W.mg_of X G u_MOST_PART, ⟨_, rfl⟩⟩ ⟨_, PySem.W.mg_of X G u_MOST_PLAYERS, ⟨_, rfl⟩⟩ ⟨_, PySem.W.mg_of X G u_MOST_ROWS, ⟨_, rfl⟩⟩⟩
theorem walk {ts : List Addr} {l : PySem.W.OpenLaw} {q : Program} {loose : List Str} {XP : (Str → Option Value) → Heap → Prop} {YP : World → Heap → Prop} {d : DefRec} {K : Params → PySem.W.Frag} (hn : l.most = some 63) (hdf : d.params.defaults = [])
    (hY : ∀ (w : World) (h : Heap), YP w h → (K w.params).In h)
    (hT : ∀ (w : World) (h : Heap), YP w h → ∀ P ∈ ts, h.get? P = some (PySem.W.tabObj #[]))
    (F : ∀ (w : World) (mg : Str → Option Value) (fa : Addr) (h : Heap), (K w.params).In h → h.Ns mainGlobals mg → mg d.name = some (.ref fa) → (∃ c P, PySem.W.tabIn (K w.params) "in_order" = some (c, P) ∧ PySem.W.codeHdIn (K w.params) c P = true ∧ (K w.params).lookup P = none ∧ P ∈ ts) ∧
      ∃ fd : FuncData, (∀ (s : Shared) (u : Value), BindsTo s fd ⟨[u], []⟩ [("_law_script", u)]) ∧ ∀ base : Heap, (K w.params).In base → base.Ns mainGlobals mg → BmB mg base → FnOk l.prog w (K w.params) mg base (CXE l.prog w) 11 fa fd ["_law_script"] (sp_lawABT "in_order" (K w.params))) :
    PySem.W.WalkO q loose XP YP l.row.toRowW d [] (fun f vs => PySem.call f vs) :=
  Lw.walk_ofBT (y := "in_order") (n := 63) (k := 11) (x := "_law_script") (CX := fun w => CXE l.prog w) (sp := fun w => sp_lawABT "in_order" (K w.params)) hn (by decide) hdf ⟨rfl, by decide, by decide⟩ hY hT F (fun _ _ a ns hl hb hO hS => ⟨ns, a, rfl, hS, hl, hb, hO.1, fun _ => rfl⟩) fun _ _ _ _ _ z => cxe0 z
end My
def PySem.W.Fast.tw184499682660015894 := 0
def PySem.W.Fast.tw18057965198133917913 := 0
def PySem.W.Fast.tw14195633647286782739 := 0
def PySem.W.Fast.tw10599319530749688454 := 0
def PySem.W.Fast.tw14594838692613033044 := 0
def PySem.W.Fast.tw2705946263907256118 := 0
def PySem.W.Fast.tw3723286640278479419 := 0
def PySem.W.Fast.tw1673427031482429773 := 0
def PySem.W.Fast.tw10494101796160532326 := 0
def PySem.W.Fast.tw4928229994264306439 := 0
def PySem.W.Fast.tw16313840592199660119 := 0
def PySem.W.Fast.tw116792589032728367 := 0
def PySem.W.Fast.tw13782982295816657268 := 0
def PySem.W.Fast.tw3552421379973722549 := 0
def PySem.W.Fast.tw5201986376456501585 := 0
def PySem.W.Fast.tw10176656367259256328 := 0
def PySem.W.Fast.tw5821862620463064849 := 0
def PySem.W.Fast.tw3333021008554842084 := 0
def PySem.W.Fast.tw6048808176472352797 := 0
def PySem.W.Fast.tw7221981192214142078 := 0
def PySem.W.Fast.tw12692638227110371282 := 0
def PySem.W.Fast.tw11032639026555860467 := 0
def PySem.W.Fast.tw5867386029564195061 := 0
def PySem.W.Fast.tw16577060811654177220 := 0
def PySem.W.Fast.tw3700751915298725296 := 0
def PySem.W.Fast.tw13122552156723455715 := 0
def PySem.W.Fast.tw15483921080093211440 := 0
def PySem.W.Fast.tw7782588986683751188 := 0
def PySem.W.Fast.tw9023041680734723888 := 0
def PySem.W.Fast.tw3073173187383961062 := 0
def PySem.W.Fast.tw8616561139183726259 := 0
def PySem.W.Fast.tw3271156413001355661 := 0
def PySem.W.Fast.tw14928753039702757827 := 0
def PySem.W.Fast.tw3021957402795652070 := 0
def PySem.W.Fast.tw806352675922655953 := 0
def PySem.W.Fast.tw10419011694350313650 := 0
def PySem.W.Fast.tw2584186855213778627 := 0
def PySem.W.Fast.tw1031503640079596981 := 0
def PySem.W.Fast.tw13619149281698693999 := 0
def PySem.W.Fast.tw16335003508711221391 := 0
def PySem.W.Fast.tw16635287631201475005 := 0
def PySem.W.Fast.tw544535942263741030 := 0
def PySem.W.Fast.tw8065882790201558757 := 0
def PySem.W.Fast.tw16366156054738571671 := 0
def PySem.W.Fast.tw14685523840470899329 := 0
def PySem.W.Fast.tw14303334949174530372 := 0
def PySem.W.Fast.tw13681916730687507748 := 0
def PySem.W.Fast.tw5728171644619964199 := 0
def PySem.W.Fast.tw16279903130071961566 := 0
def PySem.W.Fast.tw12749583175908661317 := 0
def PySem.W.Fast.tw7440222178476309690 := 0
def PySem.W.Fast.tw3778204800259716586 := 0
def PySem.W.Fast.tw2404076376972520020 := 0
def PySem.W.Fast.tw8300629025012988581 := 0
def PySem.W.Fast.tw16112160957391415639 := 0
def PySem.W.Fast.tw14541189842994990660 := 0
def PySem.W.Fast.tw2721911964330316469 := 0
def PySem.W.Fast.tw8407972217161655754 := 0
def PySem.W.Fast.tw3528594076998076900 := 0
def PySem.W.Fast.tw911617072466252013 := 0
def PySem.W.Fast.tw6666695115433120230 := 0
def PySem.W.Fast.tw812461052628875332 := 0
def PySem.W.Fast.tw5597522681428263189 := 0
def PySem.W.Fast.tw16362850751504588979 := 0
def PySem.W.Fast.tw10237487439207581040 := 0
def PySem.W.Fast.tw16183534047781015485 := 0
def PySem.W.Fast.tw3464356899592927528 := 0
def PySem.W.Fast.tw9128382185273410933 := 0
def PySem.W.Fast.tw9378610014505341423 := 0
def PySem.W.Fast.tw3757591204591965200 := 0
def PySem.W.Fast.tw14252645614841267461 := 0
def PySem.W.Fast.tw17328817086787047369 := 0
def PySem.W.Fast.tw2005635558801634838 := 0
def PySem.W.Fast.tw16369443774156518291 := 0
def PySem.W.Fast.tw12444054579719090710 := 0
def PySem.W.Fast.tw10056483652217231632 := 0
def PySem.W.Fast.tw14595775056772537852 := 0
def PySem.W.Fast.tw2043400003107644947 := 0
def PySem.W.Fast.tw6922440016908945492 := 0
def PySem.W.Fast.tw7241252044475081795 := 0
def PySem.W.Fast.tw16490119974158200509 := 0
def PySem.W.Fast.tw12066898985159183461 := 0
def PySem.W.Fast.tw3324957882965268074 := 0
def PySem.W.Fast.tw3268709174959175491 := 0
def PySem.W.Fast.tw15844392313645868783 := 0
def PySem.W.Fast.tw11647581764533918084 := 0
def PySem.W.Fast.tw13187479876057870946 := 0
def PySem.W.Fast.tw6931255085369022193 := 0
def PySem.W.Fast.tw6764162167946971132 := 0
def PySem.W.Fast.tw4733872135098378527 := 0
def PySem.W.Fast.tw18049089705264405330 := 0
def PySem.W.Fast.tw191864124631804567 := 0
def PySem.W.Fast.tw830759825347037161 := 0
def PySem.W.Fast.tw12021207858828989741 := 0
def PySem.W.Fast.tw1853543174687966180 := 0
def PySem.W.Fast.tw1471574285109414308 := 0
def PySem.W.Fast.tw15675273400446251016 := 0
def PySem.W.Fast.tw9993099008312819024 := 0
def PySem.W.Fast.tw13908865903383805344 := 0
open PySem PySem.W PyProof.Rows
set_option maxRecDepth 100000 in
set_option maxHeartbeats 0 in
theorem PySem.Challenge.cw_ladderworth_k51_games_put_in_and_taken_b_holds : PySem.Challenge.rw_ladderworth_k51_games_put_in_and_taken_b.Holds := by
  w_on; o_law; k_head; (case hw => w_witness2)
  k_fill
  refine My.walk (l := PySem.Challenge.rw_ladderworth_k51_games_put_in_and_taken_b) rfl rfl (fun w h Y => PySem.W.km_in_of Y) (fun w h Y => PySem.W.km_tabs_of Y) ?F
  case F =>
    intro w mg fa h KX G hmg
    refine' My.all_mk KX G hmg ?a0 ?l0 ?e0 ?k0 ?a1 ?l1 ?e1 ?k1 ?a2 ?l2 ?e2 ?k2 ?a3 ?l3 ?e3 ?k3 ?a4 ?l4 ?e4 ?k4 ?a5 ?l5 ?e5 ?k5 ?a6 ?l6 ?e6 ?k6 ?a7 ?l7 ?e7 ?k7 ?a8_Ledger ?i8 ?l8 ?e8 ?k8 ?a9_Ledger ?i9 ?l9 ?e9 ?k9 ?a10_Ledger ?i10 ?l10 ?e10 ?k10 ?a11_Ledger ?i11 ?l11 ?e11 ?k11 ?a12 ?l12 ?e12 ?k12 ?a13 ?l13 ?e13 ?k13 ?a14 ?l14 ?e14 ?k14 ?a15 ?l15 ?e15 ?k15 ?a16 ?l16 ?e16 ?k16 ?a17 ?l17 ?e17 ?k17 ?a18 ?l18 ?e18 ?k18 ?a19_Rule ?i19 ?l19 ?e19 ?k19 ?a20_Rule ?i20 ?l20 ?e20 ?k20 ?a21 ?l21 ?e21 ?k21 ?a22 ?l22 ?e22 ?k22 ?a23 ?l23 ?e23 ?k23 ?a24 ?l24 ?e24 ?k24 ?a25 ?l25 ?e25 ?k25 ?a26 ?l26 ?e26 ?k26 ?a27 ?l27 ?e27 ?k27 ?a28 ?l28 ?e28 ?k28 ?z_abs ?z_all ?z_bool ?z_int ?z_isinstance ?z_len ?z_list ?z_min ?z_range ?z_set ?z_sorted ?z_tuple ?z_zip ?t1 ?t2 ?t3 ?t4 ?t8 ?y_Ledger ?y_NoTable ?y_Rule ?q_NoTable_nw ?q_NoTable_ga ?q_NoTable_gn ?q_NoTable_cl ?q_NoTable_mo ?q_NoTable_mb ?kv_NoTable ?kk_NoTable_Ledger ?kk_NoTable_NoTable ?kk_NoTable_Rule ?lp_Ledger ?lh_Ledger ?lo_Ledger ?ls_Ledger ?mm_Ledger ?mk_Ledger ?na_first_Ledger ?na_kept_Ledger ?na_last_Ledger ?na_rule_Ledger ?na_step_Ledger ?na_table_Ledger ?lp_Rule ?lh_Rule ?lo_Rule ?ls_Rule ?mm_Rule ?mk_Rule ?na_first_Rule ?na_kept_Rule ?na_last_Rule ?na_rule_Rule ?na_step_Rule ?na_table_Rule ?u_FIRST_ROW ?p_FIRST_ROW ?p_FIRST_ROW_1 ?u_LAST_FROM ?u_MOST_GAMES ?u_MOST_PART ?u_MOST_PLAYERS ?u_MOST_ROWS
    (case y_Ledger => k_is)
    (case y_Rule => k_is)
    (case a0 => k_is)
    (case l0 => k_is)
    (case e0 => k_is)
    (case k0 => k_is)
    (case a1 => k_is)
    (case l1 => k_is)
    (case e1 => k_is)
    (case k1 => k_is)
    (case a2 => k_is)
    (case l2 => k_is)
    (case e2 => k_is)
    (case k2 => k_is)
    (case a3 => k_is)
    (case l3 => k_is)
    (case e3 => k_is)
    (case k3 => k_is)
    (case a4 => k_is)
    (case l4 => k_is)
    (case e4 => k_is)
    (case k4 => k_is)
    (case a5 => k_is)
    (case l5 => k_is)
    (case e5 => k_is)
    (case k5 => k_is)
    (case a6 => k_is)
    (case l6 => k_is)
    (case e6 => k_is)
    (case k6 => k_is)
    (case a7 => k_is)
    (case l7 => k_is)
    (case e7 => k_is)
    (case k7 => k_is)
    (case a8_Ledger => first | k_is | kernel_rfl)
    (case i8 => first | k_is | kernel_rfl)
    (case l8 => first | k_is | kernel_rfl)
    (case e8 => first | k_is | kernel_rfl)
    (case k8 => first | k_is | kernel_rfl)
    (case a9_Ledger => first | k_is | kernel_rfl)
    (case i9 => first | k_is | kernel_rfl)
    (case l9 => first | k_is | kernel_rfl)
    (case e9 => first | k_is | kernel_rfl)
    (case k9 => first | k_is | kernel_rfl)
    (case a10_Ledger => first | k_is | kernel_rfl)
    (case i10 => first | k_is | kernel_rfl)
    (case l10 => first | k_is | kernel_rfl)
    (case e10 => first | k_is | kernel_rfl)
    (case k10 => first | k_is | kernel_rfl)
    (case a11_Ledger => first | k_is | kernel_rfl)
    (case i11 => first | k_is | kernel_rfl)
    (case l11 => first | k_is | kernel_rfl)
    (case e11 => first | k_is | kernel_rfl)
    (case k11 => first | k_is | kernel_rfl)
    (case a12 => k_is)
    (case l12 => k_is)
    (case e12 => k_is)
    (case k12 => k_is)
    (case a13 => k_is)
    (case l13 => k_is)
    (case e13 => k_is)
    (case k13 => k_is)
    (case a14 => k_is)
    (case l14 => k_is)
    (case e14 => k_is)
    (case k14 => k_is)
    (case a15 => k_is)
    (case l15 => k_is)
    (case e15 => k_is)
    (case k15 => k_is)
    (case a16 => k_is)
    (case l16 => k_is)
    (case e16 => k_is)
    (case k16 => k_is)
    (case a17 => k_is)
    (case l17 => k_is)
    (case e17 => k_is)
    (case k17 => k_is)
    (case a18 => k_is)
    (case l18 => k_is)
    (case e18 => k_is)
    (case k18 => k_is)
    (case a19_Rule => first | k_is | kernel_rfl)
    (case i19 => first | k_is | kernel_rfl)
    (case l19 => first | k_is | kernel_rfl)
    (case e19 => first | k_is | kernel_rfl)
    (case k19 => first | k_is | kernel_rfl)
    (case a20_Rule => first | k_is | kernel_rfl)
    (case i20 => first | k_is | kernel_rfl)
    (case l20 => first | k_is | kernel_rfl)
    (case e20 => first | k_is | kernel_rfl)
    (case k20 => first | k_is | kernel_rfl)
    (case a21 => k_is)
    (case l21 => k_is)
    (case e21 => k_is)
    (case k21 => k_is)
    (case a22 => k_is)
    (case l22 => k_is)
    (case e22 => k_is)
    (case k22 => k_is)
    (case a23 => k_is)
    (case l23 => k_is)
    (case e23 => k_is)
    (case k23 => k_is)
    (case a24 => k_is)
    (case l24 => k_is)
    (case e24 => k_is)
    (case k24 => k_is)
    (case a25 => k_is)
    (case l25 => k_is)
    (case e25 => k_is)
    (case k25 => k_is)
    (case a26 => k_is)
    (case l26 => k_is)
    (case e26 => k_is)
    (case k26 => k_is)
    (case a27 => k_is)
    (case l27 => k_is)
    (case e27 => k_is)
    (case k27 => k_is)
    (case a28 => k_is)
    (case l28 => k_is)
    (case e28 => k_is)
    (case k28 => k_is)
    (case z_abs => k_is)
    (case z_all => k_is)
    (case z_bool => k_is)
    (case z_int => k_is)
    (case z_isinstance => k_is)
    (case z_len => k_is)
    (case z_list => k_is)
    (case z_min => k_is)
    (case z_range => k_is)
    (case z_set => k_is)
    (case z_sorted => k_is)
    (case z_tuple => k_is)
    (case z_zip => k_is)
    (case t1 => k_is)
    (case t2 => exact rfl)
    (case t3 => kernel_rfl)
    (case t4 => kernel_rfl)
    (case t8 => exact List.mem_singleton.mpr rfl)
    (case y_NoTable => first | k_is | k_exc | kernel_rfl)
    (case q_NoTable_nw => first | k_is | k_exc | kernel_rfl)
    (case q_NoTable_ga => first | k_is | k_exc | kernel_rfl)
    (case q_NoTable_gn => first | k_is | k_exc | kernel_rfl)
    (case q_NoTable_cl => first | k_is | k_exc | kernel_rfl)
    (case q_NoTable_mo => first | k_is | k_exc | kernel_rfl)
    (case q_NoTable_mb => first | k_is | k_exc | kernel_rfl)
    (case kv_NoTable => first | k_is | k_exc | kernel_rfl)
    (case kk_NoTable_Ledger => first | k_is | k_exc | kernel_rfl)
    (case kk_NoTable_NoTable => first | k_is | k_exc | kernel_rfl)
    (case kk_NoTable_Rule => first | k_is | k_exc | kernel_rfl)
    (case lp_Ledger => first | k_is | k_exc | kernel_rfl)
    (case lh_Ledger => first | k_is | k_exc | kernel_rfl)
    (case lo_Ledger => first | k_is | k_exc | kernel_rfl)
    (case ls_Ledger => first | k_is | k_exc | kernel_rfl)
    (case mm_Ledger => first | k_is | k_exc | kernel_rfl)
    (case mk_Ledger => first | k_is | k_exc | kernel_rfl)
    (case na_first_Ledger => first | k_is | k_exc | kernel_rfl)
    (case na_kept_Ledger => first | k_is | k_exc | kernel_rfl)
    (case na_last_Ledger => first | k_is | k_exc | kernel_rfl)
    (case na_rule_Ledger => first | k_is | k_exc | kernel_rfl)
    (case na_step_Ledger => first | k_is | k_exc | kernel_rfl)
    (case na_table_Ledger => first | k_is | k_exc | kernel_rfl)
    (case lp_Rule => first | k_is | k_exc | kernel_rfl)
    (case lh_Rule => first | k_is | k_exc | kernel_rfl)
    (case lo_Rule => first | k_is | k_exc | kernel_rfl)
    (case ls_Rule => first | k_is | k_exc | kernel_rfl)
    (case mm_Rule => first | k_is | k_exc | kernel_rfl)
    (case mk_Rule => first | k_is | k_exc | kernel_rfl)
    (case na_first_Rule => first | k_is | k_exc | kernel_rfl)
    (case na_kept_Rule => first | k_is | k_exc | kernel_rfl)
    (case na_last_Rule => first | k_is | k_exc | kernel_rfl)
    (case na_rule_Rule => first | k_is | k_exc | kernel_rfl)
    (case na_step_Rule => first | k_is | k_exc | kernel_rfl)
    (case na_table_Rule => first | k_is | k_exc | kernel_rfl)
    (case u_FIRST_ROW => first | k_is | k_exc | kernel_rfl)
    (case p_FIRST_ROW => first | k_is | k_exc | kernel_rfl)
    (case p_FIRST_ROW_1 => first | k_is | k_exc | kernel_rfl)
    (case u_LAST_FROM => first | k_is | k_exc | kernel_rfl)
    (case u_MOST_GAMES => first | k_is | k_exc | kernel_rfl)
    (case u_MOST_PART => first | k_is | k_exc | kernel_rfl)
    (case u_MOST_PLAYERS => first | k_is | k_exc | kernel_rfl)
    (case u_MOST_ROWS => first | k_is | k_exc | kernel_rfl)
#print axioms PySem.Challenge.cw_ladderworth_k51_games_put_in_and_taken_b_holds
