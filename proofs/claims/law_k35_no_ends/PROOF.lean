import PyProof.Rows.All
import Wide.All
import OpenK.AllK
import Wide.FinOn
import Lean
import PyProof.EqAt
import PyProof.EqKinds
import PyProof.TupleCall
import PyProof.Cells
import PyProof.AttrMissHeap
import PyProof.FactsAll.zip
import KE.KItemsList
import PyProof.AutoSeq1
import PySem.Challenge.RW_ladderworth_k35_no_ends
set_option Elab.async false
set_option linter.all false
set_option maxRecDepth 100000
namespace L2
open PySem PySem.Spec PyProof.Rows
abbrev Key := Sum Int Str
def keyIs : Key → Value → Bool
  | .inl k, v => Value.isInt k v
  | .inr x, v => Value.isStrOf x v
def keyH (w : World) : Key → Int
  | .inl k => hashInt k
  | .inr x => hashStr w x
theorem keyIs_shape:∀ {k:Key} {v:Value},keyIs k v = true→(∃ i t,k = Sum.inl i∧v = Value.int i t) ∨ (∃ x t,k = Sum.inr x∧v = Value.str x t)
  | .inl i, v, h => by
    obtain ⟨t, e⟩ := Value.isInt_shape (k := i) (v := v) h
    exact .inl ⟨i, t, rfl, e⟩
  | .inr x, v, h => by
    obtain ⟨t, e⟩ := Value.isStrOf_shape (x := x) (v := v) h
    exact .inr ⟨x, t, rfl, e⟩
theorem keyIs_int (i:Int) (t:Tok):keyIs (.inl i) (.int i t) = true:=by simp [keyIs,Value.isInt]
theorem keyIs_str (x:Str) (t:Tok):keyIs (.inr x) (.str x t) = true:=by simp [keyIs,Value.isStrOf]
theorem key_ll (a b:Int):decide ((Sum.inl a:Key) = Sum.inl b) = (a == b):=by
  by_cases e : a = b
  · subst e; simp
  · have h:¬ (Sum.inl a:Key) = Sum.inl b:=fun q=>e (Sum.inl.inj q)
    rw [decide_eq_false h]
    exact (beq_eq_false_iff_ne.mpr e).symm
theorem key_rr (a b:Str):decide ((Sum.inr a:Key) = Sum.inr b) = decide (a = b):=by
  by_cases e : a = b
  · subst e; simp
  · have h:¬ (Sum.inr a:Key) = Sum.inr b:=fun q=>e (Sum.inr.inj q)
    rw [decide_eq_false h, decide_eq_false e]
theorem key_lr (a:Int) (b:Str):decide ((Sum.inl a:Key) = Sum.inr b) = false:=decide_eq_false (fun q=>nomatch q)
theorem key_rl (a:Str) (b:Int):decide ((Sum.inr a:Key) = Sum.inl b) = false:=decide_eq_false (fun q=>nomatch q)
def mixKind (prog:Program) (w:World):PySem.KeyKind prog w Key where
  is := keyIs
  hash := keyH w
  inj := fun v a b ha hb => by
    rcases keyIs_shape ha with ⟨i,t,rfl,rfl⟩ | ⟨x,t,rfl,rfl⟩
    · rcases keyIs_shape hb with ⟨j,u,rfl,e⟩ | ⟨y,u,rfl,e⟩
      · injection e with e1 _; rw [e1]
      · exact nomatch e
    · rcases keyIs_shape hb with ⟨j,u,rfl,e⟩ | ⟨y,u,rfl,e⟩
      · exact nomatch e
      · injection e with e1 _; rw [e1]
  byValue := fun k v h => by
    rcases keyIs_shape h with ⟨i,t,rfl,rfl⟩ | ⟨x,t,rfl,rfl⟩ <;> rfl
  pyHash := fun hv h => by
    rcases keyIs_shape hv with ⟨i,t,rfl,rfl⟩ | ⟨x,t,rfl,rfl⟩
    · exact wpAny_pyHash_int h
    · exact wpAny_pyHash_str h
  eqBool := fun hu hv h => by
    rcases keyIs_shape hu with ⟨i,t,rfl,rfl⟩ | ⟨x,t,rfl,rfl⟩
    · rcases keyIs_shape hv with ⟨j,u,rfl,rfl⟩ | ⟨y,u,rfl,rfl⟩
      · rw [key_ll] at h; exact wpAny_eqBool_int h
      · rw [key_lr] at h; exact SeqAt.EqAt.int_str i t y u _ _ _ _ h
    · rcases keyIs_shape hv with ⟨j,u,rfl,rfl⟩ | ⟨y,u,rfl,rfl⟩
      · rw [key_rl] at h; exact SeqAt.EqAt.str_int x t j u _ _ _ _ h
      · rw [key_rr] at h; exact wpAny_eqBool_str h
  «strs» := fun k x t v h => by
    rcases keyIs_shape h with ⟨i,u,rfl,e⟩ | ⟨y,u,rfl,e⟩
    · exact nomatch e
    · injection e with e1 _
      subst e1
      cases v <;> rfl
theorem mixKind_int (prog:Program) (w:World) (i:Int) (t:Tok):(mixKind prog w).is (.inl i) (.int i t) = true:=keyIs_int i t
theorem mixKind_str (prog:Program) (w:World) (x:Str) (t:Tok):(mixKind prog w).is (.inr x) (.str x t) = true:=keyIs_str x t
end L2
namespace L2
open PySem PySem.Spec PyProof.Rows
inductive V where
  | non | bl (b:Bool) | int (i:Int) | str (x:Str) | byt (b:Array UInt8) | flt (b:UInt64) | ref (a:Addr) | ty (n:String)
  deriving DecidableEq
def RelV : V → Value → Prop
  | .non, u => u = Value.none
  | .bl b, u => u = Value.bool b
  | .int i, u => ∃ t, u = Value.int i t
  | .str x, u => ∃ t, u = Value.str x t
  | .byt b, u => ∃ t, u = Value.bytes b t
  | .flt b, u => ∃ t, u = Value.float b t
  | .ref a, u => u = Value.ref a
  | .ty n, u => u = Value.type n
abbrev Vals : List V → List Value → Prop := Paired RelV
theorem Vals.length {xs:List V} {us:List Value} (r:Vals xs us):xs.length = us.length:=Paired.length r
theorem Vals.get:∀ {xs:List V} {us:List Value} {i:Nat} {x:V},Vals xs us→xs[i]? = some x→∃ u,us[i]? = some u∧RelV x u
  | _, _, _, _, .nil, e => by simp at e
  | _,_,0,_,.cons r _,e=>by simp at e; subst e; exact ⟨_,rfl,r⟩
  | _, _, i + 1, x, .cons _ t, e => by
    obtain ⟨u,h1,h2⟩:=Vals.get (i:=i) (x:=x) t (by simpa using e)
    exact ⟨u, by simpa using h1, h2⟩
theorem Vals.set {x:V} {u:Value} (r:RelV x u):∀ {xs:List V} {us:List Value} (i:Nat),Vals xs us→Vals (xs.set i x) (us.set i u)
  | _, _, _, .nil => .nil
  | _, _, 0, .cons _ t => .cons r t
  | _, _, i + 1, .cons q t => .cons q (Vals.set r i t)
theorem Vals.append:∀ {xs ys:List V} {us ws:List Value},Vals xs us→Vals ys ws→Vals (xs ++ ys) (us ++ ws)
  | _, _, _, _, .nil, s => s
  | _, _, _, _, .cons r t, s => .cons r (Vals.append t s)
theorem Vals.take:∀ {xs:List V} {us:List Value} (n:Nat),Vals xs us→Vals (xs.take n) (us.take n)
  | _, _, 0, _ => .nil
  | _, _, _ + 1, .nil => .nil
  | _, _, n + 1, .cons r t => .cons r (Vals.take n t)
theorem Vals.drop:∀ {xs:List V} {us:List Value} (n:Nat),Vals xs us→Vals (xs.drop n) (us.drop n)
  | _, _, 0, r => r
  | _, _, _ + 1, .nil => .nil
  | _, _, n + 1, .cons _ t => Vals.drop n t
def RelO : Option V → Option Value → Prop
  | some v, some u => RelV v u
  | none, none => True
  | _, _ => False
def KV {κ:Type}:List (κ × V)→List (κ × Value)→Prop:=Paired fun (p:κ × V) (q:κ × Value)=>p.1 = q.1∧RelV p.2 q.2
def kV : Key → V
  | .inl i => .int i
  | .inr x => .str x
inductive HO where
  | lst (xs : List V)
  | tup (xs : List V)
  | dK (kvs:List (Key × V)) | dT (kvs:List (List Key × V))
  | set (S : Int → Bool) (n : Nat)
  | ins (C dx : Addr) (fs : List (Str × V))
  | own (x : Addr)
  | xd (fs : List (Str × V))
  | met (f x : Addr)
  | rng (lo hi : Int)
  | frz (o : Obj) (u : HO)
  | tbl (ps : Array Value)
  | ext (φ : Heap → Prop)
abbrev Hp := Addr → Option HO
def upd (H:Hp) (a:Addr) (o:HO):Hp:=fun b=>if b = a then some o else H b
theorem upd_same {H:Hp} {a:Addr} {o:HO}:upd H a o a = some o:=by unfold upd; rw [if_pos rfl]
theorem upd_ne {H:Hp} {a b:Addr} {o:HO} (h:b ≠ a):upd H a o b = H b:=by unfold upd; rw [if_neg h]
theorem upd_upd {H:Hp} {a:Addr} {o u:HO}:upd (upd H a o) a u = upd H a u:=by
  funext b; unfold upd; split <;> rfl
theorem ne_of {H:Hp} {a b:Addr} {o u:HO} (h:H a = some o) (h':H b = some u) (d:o ≠ u):a ≠ b:=by
  intro e; subst e; rw [h] at h'; exact d (Option.some.inj h')
theorem ne_of_none {H:Hp} {a b:Addr} {o:HO} (h:H a = some o) (h':H b = none):a ≠ b:=by
  intro e; subst e; rw [h] at h'; cases h'
section
variable (P : Program) (w : World)
def ObjOk (H : Hp) (h : Heap) (a : Addr) : HO → Prop
  | .lst xs=>xs.length ≤ sizeLine∧∃ (its:List Value) (n:Nat),Vals xs its∧h.get? a = some { cls:=.type "list",data:=.seq its.toArray n }
  | .tup xs=>xs.length ≤ sizeLine∧∃ its:List Value,Vals xs its∧IsTup h a its.toArray
  | .dK kvs=>kvs.length ≤ sizeLine∧(a == sysModules) = false∧∃ vs,KV kvs vs∧h.DictOf (mixKind P w) a vs
  | .dT kvs=>kvs.length ≤ sizeLine∧(a == sysModules) = false∧∃ xs:List (List Key × Addr × Value),
      Paired (fun (p:List Key × V) (q:List Key × Addr × Value)=>p.1 = q.1∧H q.2.1 = some (.tup (p.1.map kV))∧RelV p.2 q.2.2) kvs xs ∧
      ∃ o es ep,h.get? a = some o∧o.ExactDict∧o.data = .dict es ep∧es.toList = xs.map (entryOfKey (tupleKind (mixKind P w)))∧(xs.map (·.1)).Nodup
  | .set S n => h.SetOf (intKind P w) a S n
  | .ins C dx fs=>H dx = some (.own a)∧fs.length ≤ 1000∧dx ≠ a∧h.get? a = some (PySem.W.instObj C dx) ∧
      ∃ mA,h.Ns1 dx mA∧(∀ f,RelO (fs.lookup f) (mA f))∧PySem.Within mA (fs.map (·.1))
  | .own _ => ∃ o, h.get? a = some o
  | .xd fs=>∃ mA,h.Ns1 a mA∧∀ f,RelO (fs.lookup f) (mA f)
  | .rng lo hi=>∃ t u v,h.get? a = some { cls:=.type "range",data:=.fields #[.int lo t,.int hi u,.int 1 v] }
  | .frz o u => h.get? a = some o ∧ ObjOk H h a u
  | .tbl ps=>h.get? a = some { cls:=.none,data:=.fields ps }
  | .met f x=>h.get? a = some (PySem.W.methodObj (.ref f) (.ref x))
  | .ext φ=>φ h∧(∃ o,h.get? a = some o)∧∀ h1 h2:Heap,φ h1→(∀ o,h1.get? a = some o→h2.get? a = some o)→φ h2
def HOk (H:Hp) (h:Heap):Prop:=∀ a o,H a = some o→ObjOk P w H h a o
end
section
variable {P:Program} {w:World} {H H':Hp} {h h':Heap} {a:Addr} {o:HO}
theorem ObjOk.lt (x:ObjOk P w H h a o):a < h.objs.size:=by
  cases o with
  | lst xs=>obtain ⟨_,_,_,_,e⟩:=x; exact Heap.lt_size e
  | tup xs => obtain ⟨_, _, _, p⟩ := x; exact p.lt
  | dK kvs=>obtain ⟨_,_,_,_,o,_,_,e,_⟩:=x; exact Heap.lt_size e
  | dT kvs=>obtain ⟨_,_,_,_,o,_,_,e,_⟩:=x; exact Heap.lt_size e
  | set S n=>obtain ⟨o,_,_,_,e,_⟩:=x; exact Heap.lt_size e
  | ins C dx fs=>obtain ⟨_,_,_,e,_⟩:=x; exact Heap.lt_size e
  | own y => obtain ⟨_, e⟩ := x; exact Heap.lt_size e
  | xd fs=>obtain ⟨_,⟨_,_,_,e,_⟩,_⟩:=x; exact Heap.lt_size e
  | rng lo hi=>obtain ⟨_,_,_,e⟩:=x; exact Heap.lt_size e
  | frz ob u => obtain ⟨e, _⟩ := x; exact Heap.lt_size e
  | tbl ps=>exact Heap.lt_size (show h.get? a = some _ from x)
  | met f y=>exact Heap.lt_size (show h.get? a = some _ from x)
  | ext φ=>obtain ⟨_,⟨_,e⟩,_⟩:=x; exact Heap.lt_size e
theorem Paired.mapP {α β:Type} {F G:α→β→Prop}:∀ {l₁:List α} {l₂:List β},Paired F l₁ l₂→(∀ a b,F a b→G a b)→Paired G l₁ l₂
  | _, _, .nil, _ => .nil
  | _, _, .cons r t, f => .cons (f _ _ r) (Paired.mapP t f)
theorem ObjOk.stay (x:ObjOk P w H h a o) (k:∀ b u,(b = a ∨ H b = some (.own a))→h.get? b = some u→h'.get? b = some u)
    (ho:∀ b,H b = some (.own a)→H' b = some (.own a)) (ht:∀ b xs,H b = some (.tup xs)→H' b = some (.tup xs)):ObjOk P w H' h' a o:=by
  induction o with
  | lst xs=>obtain ⟨z,its,n,r,e⟩:=x; exact ⟨z,its,n,r,k _ _ (.inl rfl) e⟩
  | tup xs=>obtain ⟨z,its,r,ob,e,c⟩:=x; exact ⟨z,its,r,ob,k _ _ (.inl rfl) e,c⟩
  | dK kvs=>obtain ⟨z,y,vs,r,ob,es,ep,e,c⟩:=x; exact ⟨z,y,vs,r,ob,es,ep,k _ _ (.inl rfl) e,c⟩
  | dT kvs =>
    obtain ⟨z, y, xs, r, ob, es, ep, e, c⟩ := x
    exact ⟨z,y,xs,Paired.mapP r fun p q z=>⟨z.1,ht _ _ z.2.1,z.2.2⟩,ob,es,ep,k _ _ (.inl rfl) e,c⟩
  | set S n=>obtain ⟨ob,es,ep,t,e,c⟩:=x; exact ⟨ob,es,ep,t,k _ _ (.inl rfl) e,c⟩
  | ins C dx fs =>
    obtain ⟨d, z, ne, e, mA, ⟨od, es, ep, e2, c⟩, r⟩ := x
    exact ⟨ho _ d,z,ne,k _ _ (.inl rfl) e,mA,⟨od,es,ep,k _ _ (.inr d) e2,c⟩,r⟩
  | own y=>obtain ⟨ob,e⟩:=x; exact ⟨ob,k _ _ (.inl rfl) e⟩
  | xd fs=>obtain ⟨mA,⟨od,es,ep,e,c⟩,r⟩:=x; exact ⟨mA,⟨od,es,ep,k _ _ (.inl rfl) e,c⟩,r⟩
  | rng lo hi=>obtain ⟨t,u,v,e⟩:=x; exact ⟨t,u,v,k _ _ (.inl rfl) e⟩
  | frz ob u ih=>obtain ⟨e,q⟩:=x; exact ⟨k _ _ (.inl rfl) e,ih q⟩
  | tbl ps =>
    have e:h.get? a = some { cls:=.none,data:=.fields ps }:=x
    show h'.get? a = some { cls:=.none,data:=.fields ps }
    exact k a _ (.inl rfl) e
  | met f y =>
    have e:h.get? a = some (PySem.W.methodObj (.ref f) (.ref y)):=x
    show h'.get? a = some (PySem.W.methodObj (.ref f) (.ref y))
    exact k a _ (.inl rfl) e
  | ext φ=>obtain ⟨p,⟨o,e⟩,st⟩:=x; exact ⟨st _ _ p fun o q=>k _ _ (.inl rfl) q,⟨o,k _ _ (.inl rfl) e⟩,st⟩
theorem HOk.lt (x:HOk P w H h) (e:H a = some o):a < h.objs.size:=(x a o e).lt
theorem HOk.fresh (x:HOk P w H h) (e:h.objs.size ≤ a):H a = none:=by
  cases q : H a with
  | none => rfl
  | some u=>exact absurd (Nat.lt_of_lt_of_le (x.lt q) e) (Nat.lt_irrefl _)
theorem HOk.kept (x:HOk P w H h) (k:∀ b u,h.get? b = some u→h'.get? b = some u):HOk P w H h':=fun a o e =>
  (x a o e).stay (fun b u _ q=>k b u q) (fun _ q=>q) fun _ _ q=>q
theorem HOk.laid (x:HOk P w H h) (k:∀ b u,h.get? b = some u→h'.get? b = some u) (hp:h.objs.size ≤ a) (new:ObjOk P w (upd H a o) h' a o):HOk P w (upd H a o) h':=fun b u e=>by
  have hn := x.fresh hp
  by_cases hb : b = a
  · subst hb; rw [upd_same] at e; cases e; exact new
  · rw [upd_ne hb] at e
    exact (x b u e).stay (fun c v _ q=>k c v q) (fun c q=>by rw [upd_ne (ne_of_none q hn)]; exact q) fun c xs q=>by rw [upd_ne (ne_of_none q hn)]; exact q
end
def Rd (H:Hp) (a:Addr) (u:HO):Prop:=H a = some u ∨ ∃ o,H a = some (.frz o u)
theorem Rd.ok {P:Program} {w:World} {H:Hp} {h:Heap} {a:Addr} {u:HO} (r:Rd H a u) (x:HOk P w H h):ObjOk P w H h a u:=by
  rcases r with r | ⟨o, r⟩
  · exact x a u r
  · obtain ⟨_, q⟩ := x a _ r
    exact q
def Mut : Option HO → Prop
  | some (.lst _) => True
  | some (.dK _) => True
  | some (.dT _) => True
  | some (.set _ _) => True
  | some (.ins _ _ _) => True
  | some (.ext _) => True
  | _ => False
section
variable {P:Program} {w:World} {H:Hp} {h h':Heap} {x e:Addr} {o':HO}
theorem HOk.write (ok:HOk P w H h) (mu:Mut (H x)) (he:e = x ∨ H e = some (.own x)) (k:∀ b u,b ≠ e→h.get? b = some u→h'.get? b = some u) (heo:∃ u,h'.get? e = some u)
    (new:ObjOk P w (upd H x o') h' x o'):HOk P w (upd H x o') h':=fun b u q=>by
  have nown:∀ c y,H c = some (.own y)→c ≠ x:=fun c y r z=>by subst z; rw [r] at mu; exact mu
  have ntup:∀ c xs,H c = some (.tup xs)→c ≠ x:=fun c xs r z=>by subst z; rw [r] at mu; exact mu
  by_cases hb : b = x
  · subst hb; rw [upd_same] at q; cases q; exact new
  · rw [upd_ne hb] at q
    by_cases hbe : b = e
    · have q' : H b = some (.own x) := by
        rcases he with z | z
        · exact absurd (hbe.trans z) hb
        · rw [hbe]; exact z
      rw [q] at q'; cases q'
      obtain ⟨v, hv⟩ := heo
      exact ⟨v, by rw [hbe]; exact hv⟩
    · refine (ok b u q).stay (fun c v hc r=>k c v ?_ r) (fun c r=>by rw [upd_ne (nown c b r)]; exact r) fun c xs r=>by rw [upd_ne (ntup c xs r)]; exact r
      rcases hc with rfl | hc
      · exact hbe
      · rintro rfl
        rcases he with z | z
        · exact nown c b hc z
        · rw [hc] at z; cases z; exact hb rfl
end
structure Un (fs ex:List Addr) (H H':Hp) (h h':Heap):Prop where
  keep:∀ b o,h.get? b = some o→H b = none→b ∉ fs→b ∉ ex→h'.get? b = some o
  slot:∀ b o,h.get? b = some o→H b = none→b ∈ fs→b ∉ ex→∃ sl,h'.get? b = some { o with slots:=sl }
  free:∀ b o,h.get? b = some o→H b = none→b ∉ ex→H' b = none
  there:∀ b o,h.get? b = some o→b ∉ ex→∃ o',h'.get? b = some o'
  tups:∀ b xs,H b = some (.tup xs)→H' b = some (.tup xs)
  frzs:∀ b o u,H b = some (.frz o u)→H' b = some (.frz o u)
  tbls:∀ b ps,H b = some (.tbl ps)→∃ more,H' b = some (.tbl (ps ++ more))
section
variable {fs fs' ex ex':List Addr} {H H1 H2:Hp} {h h1 h2 h':Heap} {a x e:Addr} {o:HO}
theorem Un.any (u:Un fs ex H H1 h h1) {b:Addr} {ob:Obj} (q:h.get? b = some ob) (n:H b = none) (hx:b ∉ ex):∃ sl,h1.get? b = some { ob with slots:=sl }:=by
  by_cases hb : b ∈ fs
  · exact u.slot b ob q n hb hx
  · exact ⟨ob.slots, u.keep b ob q n hb hx⟩
theorem Un.kept (k:∀ b u,h.get? b = some u→h'.get? b = some u):Un fs ex H H h h' :=
  ⟨fun b ob q _ _ _=>k b ob q,fun b ob q _ _ _=>⟨ob.slots,k b ob q⟩,fun _ _ _ n _=>n,fun b ob q _=>⟨ob,k b ob q⟩,fun _ _ q=>q,fun _ _ _ q=>q,fun _ ps q=>⟨#[],by rw [q]; simp⟩⟩
theorem Un.refl : Un fs ex H H h h := Un.kept fun _ _ q => q
theorem Un.laid (k:∀ b u,h.get? b = some u→h'.get? b = some u) (hp:h.objs.size ≤ a) (hn:H a = none):Un fs ex H (upd H a o) h h' where
  keep := fun b u q _ _ _ => k b u q
  slot := fun b u q _ _ _ => ⟨u.slots, k b u q⟩
  free:=fun b u q n _=>by rw [upd_ne (Nat.ne_of_lt (Nat.lt_of_lt_of_le (Heap.lt_size q) hp))]; exact n
  there := fun b u q _ => ⟨u, k b u q⟩
  tups:=fun b xs q=>by rw [upd_ne (ne_of_none q hn)]; exact q
  frzs:=fun b u xs q=>by rw [upd_ne (ne_of_none q hn)]; exact q
  tbls:=fun b ps q=>⟨#[],by rw [upd_ne (ne_of_none q hn),q]; simp⟩
theorem Un.write (mu:Mut (H x)) (he:e = x ∨ H e = some (.own x)) (k:∀ b u,b ≠ e→h.get? b = some u→h'.get? b = some u) (heo:∃ u,h'.get? e = some u):Un fs ex H (upd H x o) h h':=by
  have hx:∀ b,H b = none→b ≠ x:=fun b n z=>by subst z; rw [n] at mu; exact mu
  have hb : ∀ b, H b = none → b ≠ e := fun b n z => by
    subst z
    rcases he with r | r
    · exact hx b n r
    · rw [n] at r; cases r
  have hm:∀ b u,H b = some u→¬ Mut (some u)→b ≠ x:=fun b u q nm z=>by subst z; rw [q] at mu; exact nm mu
  refine ⟨fun b u q n _ _=>k b u (hb b n) q,fun b u q n _ _=>⟨u.slots,k b u (hb b n) q⟩,fun b u q n _=>by rw [upd_ne (hx b n)]; exact n,fun b u q _=>?_,
    fun b xs q=>by rw [upd_ne (hm b _ q fun z=>z)]; exact q,fun b u xs q=>by rw [upd_ne (hm b _ q fun z=>z)]; exact q,fun b ps q=>⟨#[],by rw [upd_ne (hm b _ q fun z=>z),q]; simp⟩⟩
  by_cases hbe : b = e
  · subst hbe; exact heo
  · exact ⟨u, k b u hbe q⟩
end
def trk (h:Heap) (H:Hp):List Addr:=(List.range h.objs.size).filter fun a=>(H a).isSome
def hidT (h:Heap) (H:Hp):Heap:=PySem.W.hideAll h (trk h H)
theorem hidT_size (h:Heap) (H:Hp):(hidT h H).objs.size = h.objs.size:=PySem.W.hideAll_size _ _
theorem hidT_get {h:Heap} {H:Hp} {b:Addr} {o:Obj} (e:h.get? b = some o) (n:H b = none):(hidT h H).get? b = some o :=
  PySem.W.hideAll_get _ e fun hm => by
    have q:(H b).isSome = true:=(List.mem_filter.mp hm).2
    rw [n] at q; simp at q
theorem of_hidT {h:Heap} {H:Hp} {b:Addr} {o:Obj} (e:(hidT h H).get? b = some o):h.get? b = some o∧H b = none:=by
  have e':h.get? b = some o:=PySem.W.of_hideAll (trk h H) e
  refine ⟨e', ?_⟩
  cases q : H b with
  | none => rfl
  | some x =>
    have hm:b ∈ trk h H:=List.mem_filter.mpr ⟨List.mem_range.mpr (Heap.lt_size e'),by simp [q]⟩
    have z:(hidT h H).get? b = none:=PySem.W.hideAll_none (trk h H) hm
    rw [z] at e; cases e
def allNews (g h:Heap) (L:Addr):List (Addr × Obj):=(List.range h.objs.size).filterMap fun a=>if a = L ∨ (g.get? a).isSome = true then none else (h.get? a).map fun o=>(a,o)
def rest (g h:Heap) (L d:Addr):List (Addr × Obj):=(allNews g h L).filter fun p=>decide (p.1 ≠ d)
end L2
namespace L2
open PySem PySem.Spec PyProof.Rows
structure Mod (K:PySem.W.Frag) (mg:Str→Option Value) (base:Heap):Prop where
  kin : K.In base
  glob : base.Ns mainGlobals mg
  blt:∃ mb,base.Ns builtinsNs mb∧∀ x:Str,x ≠ "__name__"→mb x = bootBuiltins x
  nolimit : base.NoLimit
/-- the context: a def's body (or a comprehension's block) running. base: fixed through the whole law; s₀,H₀: the entry; outer: the frames whose slots others may change (a def's callers); stack: all frames that run;
   ex: iterators that were made ahead of the entry and are walked here (a comprehension's); fn: the names whose cells were made at the entry (a def: all; a comprehension's block: its own); calm: not within an except suite; pn: pins that every state bears; xe: what is wanted of an exception that leaves the code -/
structure Cx where
  prog : Program
  w : World
  K : PySem.W.Frag
  mg : Str → Option Value
  base : Heap
  A : Around
  N : List Str
  s₀ : Shared
  H₀ : Hp
  env : Env
  outer : List Env
  stack : List Env
  ex : List Addr
  fn : Str → Bool
  calm : Bool
  pn : List (Addr × Obj)
  xe : Value → Shared → Prop
def frs (l : List Env) : List Addr := l.filterMap (·.frame)
abbrev Cx.fs (X : Cx) : List Addr := frs X.outer
def Vis (sc:Scope) (x:Str):Prop:=sc.names.lookup x = some .local ∨ sc.names.lookup x = some .cell ∨ sc.names.lookup x = some .free
def Loc (sc:Scope) (x:Str):Prop:=sc.names.lookup x = some .local ∨ sc.names.lookup x = some .cell
def Look (env:Env) (h:Heap) (m:Str→Option Value) (x:Str) (u:Value):Prop :=
  (env.kindOf x = some .local∧m x = some u) ∨ ((env.kindOf x = some .cell ∨ env.kindOf x = some .free)∧∃ c,env.cells.lookup x = some c∧h.IsCell c (some u))
structure Cx.Ok (X : Cx) : Prop where
  mod : Mod X.K X.mg X.base
  kind : X.env.scope.kind = .function
  glob : X.env.globals = mainGlobals
  blt : X.env.builtins = builtinsNs
  above : X.s₀.heap.objs.size ≤ X.env.locals
  inj:∀ x y c,X.env.cells.lookup x = some c→X.env.cells.lookup y = some c→x = y
  has:∀ x,(X.env.kindOf x = some .cell ∨ X.env.kindOf x = some .free)→∃ c,X.env.cells.lookup x = some c
  cab:∀ x c,X.fn x = true→X.env.cells.lookup x = some c→X.s₀.heap.objs.size ≤ c
  hd : X.calm = true → X.A.handled = none
  frames : X.A.frames = some X.stack
  stk:X.stack = X.outer ∨ (X.stack = X.env :: X.outer∧X.env.frame = some X.env.locals)
  exf:∀ b ∈ X.ex,b ≠ X.env.locals∧∀ x c,X.env.cells.lookup x = some c→c ≠ b
  bs:∀ b o,X.base.get? b = some o→X.s₀.heap.get? b = some o∧X.H₀ b = none
  bsz : X.base.objs.size ≤ X.s₀.heap.objs.size
  noex : ∀ b o, X.base.get? b = some o → b ∉ X.ex
  exfs : ∀ b ∈ X.ex, b ∉ X.fs
  funs : X.s₀.heap.FunFrames X.base X.outer
  frf : ∀ b ∈ X.fs, X.H₀ b = none
structure Inv (X:Cx) (pins:List (Addr × Obj)) (σ:List (Option V)) (H:Hp) (s:Shared):Prop where
  ok : X.Ok
  os : s.os = X.s₀.os
  bare : AllBare s.gens
  base : Un X.fs X.ex X.H₀ H X.s₀.heap s.heap
  loc:∃ m,s.heap.Ns X.env.locals m∧∀ (i:Nat) (x:Str) (v:V),X.N[i]? = some x→σ[i]? = some (some v)→Vis X.env.scope x→∃ u,RelV v u∧Look X.env s.heap m x u
  cell:∀ x c,X.env.cells.lookup x = some c→∃ v,s.heap.IsCell c v
  free : H X.env.locals = none
  freeC : ∀ x c, X.env.cells.lookup x = some c → H c = none
  pin:∀ p ∈ X.pn ++ pins,s.heap.get? p.1 = some p.2∧H p.1 = none∧p.1 ≠ X.env.locals∧p.1 ∉ X.fs∧∀ v,p.2.data ≠ .cell v
  hok : HOk X.prog X.w H s.heap
  len : σ.length = X.N.length
section
variable {X:Cx} {pins:List (Addr × Obj)} {σ:List (Option V)} {H H':Hp} {s:Shared} {h':Heap}
theorem Cx.Ok.nofr (ok:X.Ok) {b:Addr} {o:Obj} (e:X.base.get? b = some o):b ∉ X.fs:=fun hb=>by
  have := (ok.funs.mem hb).1
  rw [e] at this; cases this
theorem Inv.bs (I:Inv X pins σ H s):∀ b o,X.base.get? b = some o→s.heap.get? b = some o∧H b = none:=fun b o e =>
  ⟨I.base.keep b o (I.ok.bs b o e).1 (I.ok.bs b o e).2 (I.ok.nofr e) (I.ok.noex b o e),I.base.free b o (I.ok.bs b o e).1 (I.ok.bs b o e).2 (I.ok.noex b o e)⟩
theorem Inv.bk (I:Inv X pins σ H s):∀ b o,X.base.get? b = some o→s.heap.get? b = some o:=fun b o e=>(I.bs b o e).1
theorem Inv.mod (I:Inv X pins σ H s):Mod X.K X.mg X.base:=I.ok.mod
theorem Inv.kIn (I:Inv X pins σ H s):X.K.In s.heap:=I.ok.mod.kin.keeps I.bk
theorem Inv.lt (I:Inv X pins σ H s):X.env.locals < s.heap.objs.size:=let ⟨_,hn,_⟩:=I.loc; hn.lt
theorem Inv.sz (I:Inv X pins σ H s):X.s₀.heap.objs.size ≤ s.heap.objs.size:=Nat.le_trans I.ok.above (Nat.le_of_lt I.lt)
theorem Inv.nofs (I:Inv X pins σ H s) {a:Addr} (h:s.heap.objs.size ≤ a):a ∉ X.fs:=fun hb=>by
  obtain ⟨_, o, ho, _⟩ := I.ok.funs.mem hb
  exact absurd (Nat.lt_of_lt_of_le (Heap.lt_size ho) (Nat.le_trans I.sz h)) (Nat.lt_irrefl _)
theorem Inv.cne (I:Inv X pins σ H s):∀ x c,X.env.cells.lookup x = some c→c ≠ X.env.locals:=fun x c e z=>by
  obtain ⟨v, o, ho, hd⟩ := I.cell x c e
  obtain ⟨m, ⟨o', es, ep, ho', hd', _⟩, _⟩ := I.loc
  rw [z, ho'] at ho; cases ho; rw [hd'] at hd; cases hd
theorem Inv.funs (I:Inv X pins σ H s):s.heap.FunFrames X.base X.outer:=by
  have all:∀ (l:List Env),(∀ b ∈ frs l,b ∈ X.fs)→X.s₀.heap.FunFrames X.base l→s.heap.FunFrames X.base l:=by
    intro l
    induction l with
    | nil => intro _ _; trivial
    | cons env r ih =>
      intro hs hl
      obtain ⟨hk, ⟨L, o, hf, hn, ho, hd⟩, hr⟩ := hl
      have hL:L ∈ X.fs:=hs L (by unfold frs; rw [List.filterMap_cons,hf]; exact List.mem_cons_self)
      obtain ⟨sl,e⟩:=I.base.slot L o ho (I.ok.frf L hL) hL fun z=>I.ok.exfs L z hL
      exact ⟨hk,⟨L,_,hf,hn,e,hd⟩,ih (fun b hb=>hs b (by unfold frs; rw [List.filterMap_cons,hf]; exact List.mem_cons_of_mem _ hb)) hr⟩
  exact all X.outer (fun _ hb => hb) I.ok.funs
theorem Inv.stack (I:Inv X pins σ H s):s.heap.FunFrames X.base X.stack:=by
  rcases I.ok.stk with e | ⟨e, hf⟩
  · rw [e]; exact I.funs
  · rw [e]
    obtain ⟨m, hn, _⟩ := I.loc
    refine .cons (by rw [I.ok.kind]; decide) hf hn ?_ I.funs
    exact Heap.get?_none_of_le (Nat.le_trans I.ok.bsz I.ok.above)
theorem Inv.stkSub (I:Inv X pins σ H s):∀ b ∈ frs X.stack,b ∈ X.env.locals :: X.fs:=fun b hb=>by
  rcases I.ok.stk with e | ⟨e, hf⟩
  · rw [e] at hb; exact List.mem_cons_of_mem _ hb
  · rw [e] at hb
    unfold frs at hb
    rw [List.filterMap_cons, hf] at hb
    exact hb
theorem Inv.stkFree (I:Inv X pins σ H s):∀ b ∈ frs X.stack,H b = none:=fun b hb=>by
  rcases List.mem_cons.mp (I.stkSub b hb) with e | hb
  · rw [e]; exact I.free
  · obtain ⟨_, o, ho, _⟩ := I.ok.funs.mem hb
    exact I.base.free b o ho (I.ok.frf b hb) fun z=>I.ok.exfs b z hb
theorem Inv.step {g':Array GenState} {t':Nat} {d':Drawn} {ch:List Addr} (I:Inv X pins σ H s)
    (hch:∀ b ∈ ch,(b ∈ X.ex ∨ X.s₀.heap.objs.size ≤ b)∧b ≠ X.env.locals∧(∀ x c,X.env.cells.lookup x = some c→c ≠ b)∧∀ p ∈ X.pn ++ pins,p.1 ≠ b)
    (keep:∀ b o,b ≠ X.env.locals→b ∉ X.fs→b ∉ ch→s.heap.get? b = some o→H b = none→h'.get? b = some o)
    (slot:∀ b o,b ≠ X.env.locals→b ∈ X.fs→b ∉ ch→s.heap.get? b = some o→H b = none→∃ sl,h'.get? b = some { o with slots:=sl }) (free:∀ b o,b ∉ ch→s.heap.get? b = some o→H b = none→H' b = none)
    (there:∀ b o,b ∉ ch→s.heap.get? b = some o→∃ o',h'.get? b = some o')
    (tups:∀ b xs,H b = some (.tup xs)→H' b = some (.tup xs)) (frzs:∀ b o u,H b = some (.frz o u)→H' b = some (.frz o u)) (tbls:∀ b ps,H b = some (.tbl ps)→∃ more,H' b = some (.tbl (ps ++ more)))
    (ns:∀ m,s.heap.Ns X.env.locals m→h'.Ns X.env.locals m) (hok:HOk X.prog X.w H' h') (hg:AllBare g') :
    Inv X pins σ H' { s with heap:=h',gens:=g',drawn:=d',toks:=t' }:=by
  have neL:∀ b o,X.s₀.heap.get? b = some o→b ≠ X.env.locals:=fun b o e=>Nat.ne_of_lt (Nat.lt_of_lt_of_le (Heap.lt_size e) I.ok.above)
  have neC:∀ b o,X.s₀.heap.get? b = some o→b ∉ X.ex→b ∉ ch:=fun b o e hx hb=>by
    rcases (hch b hb).1 with z | z
    · exact hx z
    · exact absurd (Nat.lt_of_lt_of_le (Heap.lt_size e) z) (Nat.lt_irrefl _)
  have cellK:∀ x c,X.env.cells.lookup x = some c→∀ v,s.heap.IsCell c v→h'.IsCell c v:=fun x c e v ⟨o,ho,hd⟩=>by
    have nch : c ∉ ch := fun z => (hch c z).2.2.1 x c e rfl
    by_cases hc : c ∈ X.fs
    · obtain ⟨sl,q⟩:=slot c o (I.cne x c e) hc nch ho (I.freeC x c e)
      exact ⟨_, q, hd⟩
    · exact ⟨o,keep c o (I.cne x c e) hc nch ho (I.freeC x c e),hd⟩
  refine ⟨I.ok,I.os,hg,⟨fun b o e n hb hx=>?_,fun b o e n hb hx=>?_,fun b o e n hx=>?_,fun b o e hx=>?_,fun b xs e=>tups b xs (I.base.tups b xs e),fun b o xs e=>frzs b o xs (I.base.frzs b o xs e),fun b ps e=>?_⟩,?_,fun x c e=>?_,?_,fun x c e=>?_,fun p hp=>?_,hok,I.len⟩
  · exact keep b o (neL b o e) hb (neC b o e hx) (I.base.keep b o e n hb hx) (I.base.free b o e n hx)
  · obtain ⟨sl, e1⟩ := I.base.slot b o e n hb hx
    obtain ⟨sl',e2⟩:=slot b _ (neL b o e) hb (neC b o e hx) e1 (I.base.free b o e n hx)
    exact ⟨sl', e2⟩
  · obtain ⟨o', e1⟩ := I.base.there b o e hx
    exact free b o' (neC b o e hx) e1 (I.base.free b o e n hx)
  · obtain ⟨o', e1⟩ := I.base.there b o e hx
    exact there b o' (neC b o e hx) e1
  · obtain ⟨m1, e1⟩ := I.base.tbls b ps e
    obtain ⟨m2, e2⟩ := tbls b _ e1
    exact ⟨m1 ++ m2, by rw [e2, Array.append_assoc]⟩
  · obtain ⟨m, hn, hl⟩ := I.loc
    refine ⟨m, ns m hn, fun i x v e1 e2 e3 => ?_⟩
    obtain ⟨u, r, l⟩ := hl i x v e1 e2 e3
    refine ⟨u, r, ?_⟩
    rcases l with l | ⟨k, c, e, z⟩
    · exact .inl l
    · exact .inr ⟨k, c, e, cellK x c e _ z⟩
  · obtain ⟨v, z⟩ := I.cell x c e
    exact ⟨v, cellK x c e v z⟩
  · obtain ⟨m, ⟨o, _, _, ho, _⟩, _⟩ := I.loc
    exact free _ o (fun z => (hch _ z).2.1 rfl) ho I.free
  · obtain ⟨v, o, ho, hd⟩ := I.cell x c e
    exact free c o (fun z=>(hch c z).2.2.1 x c e rfl) ho (I.freeC x c e)
  · obtain ⟨e, n, ne, nf, d⟩ := I.pin p hp
    have nch:p.1 ∉ ch:=fun z=>(hch p.1 z).2.2.2 p hp rfl
    exact ⟨keep p.1 p.2 ne nf nch e n,free p.1 p.2 nch e n,ne,nf,d⟩
theorem Inv.un {t':Nat} (I:Inv X pins σ H s) (u:Un X.fs [] H H' s.heap h') (hok:HOk X.prog X.w H' h'):Inv X pins σ H' { s with heap:=h',toks:=t' }:=by
  obtain ⟨m, ⟨o, es, ep, ho, r⟩, _⟩ := id I.loc
  obtain ⟨sl, hL⟩ := u.any ho I.free (by simp)
  exact I.step (g':=s.gens) (d':=s.drawn) (ch:=[]) (fun _ z=>nomatch z) (fun b o _ hb _ e n=>u.keep b o e n hb (by simp)) (fun b o _ hb _ e n=>u.slot b o e n hb (by simp)) (fun b o _ e n=>u.free b o e n (by simp)) (fun b o _ e=>u.there b o e (by simp)) u.tups u.frzs u.tbls (fun m' hm=>by
    obtain ⟨o', es', ep', ho', r'⟩ := hm
    rw [ho] at ho'; cases ho'
    exact ⟨_, es', ep', hL, r'⟩) hok I.bare
theorem Inv.call {g':Array GenState} {t':Nat} {d':Drawn} {ch:List Addr} (I:Inv X pins σ H s) (u:Un (frs X.stack) ch H H' s.heap h') (hok:HOk X.prog X.w H' h') (hg:AllBare g')
    (hch:∀ b ∈ ch,(b ∈ X.ex ∨ X.s₀.heap.objs.size ≤ b)∧b ≠ X.env.locals∧(∀ x c,X.env.cells.lookup x = some c→c ≠ b)∧∀ p ∈ X.pn ++ pins,p.1 ≠ b) :
    Inv X pins σ H' { s with heap:=h',gens:=g',drawn:=d',toks:=t' }:=by
  obtain ⟨m, ⟨o, es, ep, ho, r⟩, _⟩ := id I.loc
  obtain ⟨sl,hL⟩:=u.any ho I.free fun z=>(hch _ z).2.1 rfl
  exact I.step (ch:=ch) hch (fun b o hL hb hc e n=>u.keep b o e n (fun z=>(List.mem_cons.mp (I.stkSub b z)).elim hL hb) hc) (fun b o _ _ hc e n=>u.any e n hc) (fun b o hc e n=>u.free b o e n hc) (fun b o hc e=>u.there b o e hc) u.tups u.frzs u.tbls (fun m' hm=>by
    obtain ⟨o', es', ep', ho', r'⟩ := hm
    rw [ho] at ho'; cases ho'
    exact ⟨_, es', ep', hL, r'⟩) hok hg
theorem Inv.turned {t':Nat} {it:Addr} (I:Inv X pins σ H s) (k:∀ b o,b ≠ it→s.heap.get? b = some o→h'.get? b = some o) (hn:H it = none) (hL:it ≠ X.env.locals)
    (h1:it ∈ X.ex ∨ X.s₀.heap.objs.size ≤ it) (h2:∀ x c,X.env.cells.lookup x = some c→c ≠ it) (h3:∀ p ∈ X.pn ++ pins,p.1 ≠ it):Inv X pins σ H { s with heap:=h',toks:=t' }:=by
  have nit:∀ b u,H b = some u→b ≠ it:=fun b u e z=>by rw [z,hn] at e; cases e
  refine I.step (g':=s.gens) (d':=s.drawn) (ch:=[it]) (fun b hb=>?_) (fun b o _ _ hc e _=>k b o (fun z=>hc (by simp [z])) e) (fun b o _ _ hc e _=>⟨o.slots,k b o (fun z=>hc (by simp [z])) e⟩) (fun _ _ _ _ n=>n)
    (fun b o hc e=>⟨o,k b o (fun z=>hc (by simp [z])) e⟩) (fun _ _ e=>e) (fun _ _ _ e=>e) (fun b ps e=>⟨#[],by rw [e]; simp⟩) (fun m hm=>?_) (fun b u e=>?_) I.bare
  · have e : b = it := by simpa using hb
    subst e
    exact ⟨h1, hL, h2, h3⟩
  · obtain ⟨o, es, ep, ho, r⟩ := hm
    exact ⟨o, es, ep, k _ o (Ne.symm hL) ho, r⟩
  · refine (I.hok b u e).stay (fun c v hc q=>k c v ?_ q) (fun _ q=>q) fun _ _ q=>q
    rcases hc with z | z
    · rw [z]; exact nit b u e
    · exact nit c _ z
theorem Inv.tok (I:Inv X pins σ H s) (t:Nat):Inv X pins σ H { s with toks:=t }:=I.un (h':=s.heap) (t':=t) Un.refl I.hok
theorem Inv.kept {t':Nat} (I:Inv X pins σ H s) (k:∀ b u,s.heap.get? b = some u→h'.get? b = some u):Inv X pins σ H { s with heap:=h',toks:=t' }:=I.un (Un.kept k) (I.hok.kept k)
theorem Inv.laid {a:Addr} {o:HO} {t':Nat} (I:Inv X pins σ H s) (k:∀ b u,s.heap.get? b = some u→h'.get? b = some u) (hp:s.heap.objs.size ≤ a) (new:ObjOk X.prog X.w (upd H a o) h' a o) :
    Inv X pins σ (upd H a o) { s with heap:=h',toks:=t' }:=I.un (Un.laid k hp (I.hok.fresh hp)) (I.hok.laid k hp new)
theorem Inv.write {x e:Addr} {o:HO} {t':Nat} (I:Inv X pins σ H s) (mu:Mut (H x)) (he:e = x ∨ H e = some (.own x)) (k:∀ b u,b ≠ e→s.heap.get? b = some u→h'.get? b = some u) (heo:∃ u,h'.get? e = some u)
    (new:ObjOk X.prog X.w (upd H x o) h' x o):Inv X pins σ (upd H x o) { s with heap:=h',toks:=t' }:=I.un (Un.write mu he k heo) (I.hok.write mu he k heo new)
theorem Inv.weak {σ':List (Option V)} (I:Inv X pins σ H s) (hl:σ'.length = σ.length) (w:∀ (i:Nat) v,σ'[i]? = some (some v)→σ[i]? = some (some v)):Inv X pins σ' H s :=
  ⟨I.ok,I.os,I.bare,I.base,let ⟨m,hn,hl'⟩:=I.loc; ⟨m,hn,fun i x v e1 e2 e3=>hl' i x v e1 (w i v e2) e3⟩,I.cell,I.free,I.freeC,I.pin,I.hok,hl.trans I.len⟩
theorem Inv.pins_of {pins':List (Addr × Obj)} (I:Inv X pins σ H s) (h:∀ p ∈ pins',s.heap.get? p.1 = some p.2∧H p.1 = none∧p.1 ≠ X.env.locals∧p.1 ∉ X.fs∧∀ v,p.2.data ≠ .cell v):Inv X pins' σ H s :=
  ⟨I.ok,I.os,I.bare,I.base,I.loc,I.cell,I.free,I.freeC,fun p hp=>(List.mem_append.mp hp).elim (fun z=>I.pin p (List.mem_append_left _ z)) (h p),I.hok,I.len⟩
theorem nodup_ix {N:List Str} (hN:N.Nodup) {i j:Nat} {x:Str} (a:N[i]? = some x) (b:N[j]? = some x):i = j:=by
  obtain ⟨h1, e1⟩ := List.getElem?_eq_some_iff.mp a
  obtain ⟨h2, e2⟩ := List.getElem?_eq_some_iff.mp b
  exact (List.getElem_inj hN).mp (e1.trans e2.symm)
theorem store_ok2 {M:Model} {A:Around} {E:Value→Shared→Prop} {i:Nat} {x:Str} {v:V} {u:Value} {Q:Unit→Shared→Prop} (I:Inv X pins σ H s) (hN:X.N.Nodup) (hi:X.N[i]? = some x) (hx:Loc X.env.scope x) (r:RelV v u)
    (h:∀ s',Inv X pins (σ.set i (some v)) H s'→(∃ a,Heap.SameBut a s.heap s'.heap∧(a = X.env.locals ∨ X.env.cells.lookup x = some a))→Q () s') (hf:X.fn x = true ∨ X.env.scope.names.lookup x = some .local:=by first | exact .inl rfl | exact .inr rfl | assumption):wpAny M A (storeName X.env x u) Q E s:=by
  obtain ⟨m, hn, hl⟩ := id I.loc
  have hcls:(X.env.scope.kind == .class || (X.env.scope.kind == .module && X.env.locals != X.env.globals)) = false:=by rw [I.ok.kind]; rfl
  have hiσ:i < σ.length:=by rw [I.len]; exact (List.getElem?_eq_some_iff.mp hi).1
  have cne := I.cne
  have tracked:∀ {a:Addr} {h':Heap},(∃ o,s.heap.get? a = some o∧H a = none)→Heap.SameBut a s.heap h'→HOk X.prog X.w H h':=fun {a h'} ha hs b ob e=>by
    obtain ⟨_, _, hfree⟩ := ha
    refine (I.hok b ob e).stay (fun c w' hc q=>(hs.2 c ?_).trans q) (fun _ q=>q) fun _ _ q=>q
    rintro rfl
    rcases hc with rfl | hc
    · rw [hfree] at e; cases e
    · rw [hfree] at hc; cases hc
  rcases hx with hk | hk
  · refine wpAny_storeName_local hk hn (fun h' hn' hs=>?_) hcls
    obtain ⟨oL, _, _, hoL, _⟩ := id hn
    refine h _ ⟨I.ok,I.os,I.bare,⟨fun b o e n hb hx=>?_,fun b o e n hb hx=>?_,I.base.free,fun b o e hx=>?_,I.base.tups,I.base.frzs,I.base.tbls⟩,⟨_,hn',fun j y v' e1 e2 e3=>?_⟩,fun y c e=>?_,I.free,I.freeC,fun p hp=>?_,tracked ⟨oL,hoL,I.free⟩ hs,by simpa using I.len⟩ ⟨_,hs,.inl rfl⟩
    · exact (hs.2 b (Nat.ne_of_lt (Nat.lt_of_lt_of_le (Heap.lt_size e) I.ok.above))).trans (I.base.keep b o e n hb hx)
    · obtain ⟨sl, e1⟩ := I.base.slot b o e n hb hx
      exact ⟨sl,(hs.2 b (Nat.ne_of_lt (Nat.lt_of_lt_of_le (Heap.lt_size e) I.ok.above))).trans e1⟩
    · obtain ⟨o', e1⟩ := I.base.there b o e hx
      exact ⟨o',(hs.2 b (Nat.ne_of_lt (Nat.lt_of_lt_of_le (Heap.lt_size e) I.ok.above))).trans e1⟩
    · by_cases hj : j = i
      · subst hj
        rw [hi] at e1; cases e1
        rw [List.getElem?_set_self hiσ] at e2
        cases e2
        exact ⟨u, r, .inl ⟨hk, by simp⟩⟩
      · rw [List.getElem?_set_ne (Ne.symm hj)] at e2
        obtain ⟨u', r', q⟩ := hl j y v' e1 e2 e3
        refine ⟨u', r', ?_⟩
        rcases q with ⟨k, e⟩ | ⟨k, c, e, z⟩
        · refine .inl ⟨k, ?_⟩
          have:y ≠ x:=fun e=>hj (nodup_ix hN e1 (e ▸ hi))
          simp [this, e]
        · exact .inr ⟨k, c, e, z.sameBut hs (cne y c e)⟩
    · obtain ⟨w', z⟩ := I.cell y c e
      exact ⟨w', z.sameBut hs (cne y c e)⟩
    · obtain ⟨e, n, ne, nf, d⟩ := I.pin p hp
      exact ⟨(hs.2 p.1 ne).trans e, n, ne, nf, d⟩
  · have hfn : X.fn x = true := by
      rcases hf with z | z
      · exact z
      · rw [z] at hk; cases hk
    obtain ⟨c, hc⟩ := I.ok.has x (.inl hk)
    obtain ⟨w', z⟩ := I.cell x c hc
    refine wpAny_storeName_cell I.ok.kind hk hc z (fun h' hc' hs=>?_)
    obtain ⟨oc, hoc, hocd⟩ := id z
    refine h { s with heap:=h' } ⟨I.ok,I.os,I.bare,⟨fun b o e n hb hx=>?_,fun b o e n hb hx=>?_,I.base.free,fun b o e hx=>?_,I.base.tups,I.base.frzs,I.base.tbls⟩,⟨m,hn.sameBut hs (Ne.symm (cne x c hc)),fun j y v' e1 e2 e3=>?_⟩,fun y c' e=>?_,I.free,I.freeC,fun p hp=>?_,tracked ⟨oc,hoc,I.freeC x c hc⟩ hs,by simpa using I.len⟩ ⟨c,hs,.inr hc⟩
    · exact (hs.2 b (Nat.ne_of_lt (Nat.lt_of_lt_of_le (Heap.lt_size e) (I.ok.cab x c hfn hc)))).trans (I.base.keep b o e n hb hx)
    · obtain ⟨sl, e1⟩ := I.base.slot b o e n hb hx
      exact ⟨sl,(hs.2 b (Nat.ne_of_lt (Nat.lt_of_lt_of_le (Heap.lt_size e) (I.ok.cab x c hfn hc)))).trans e1⟩
    · obtain ⟨o', e1⟩ := I.base.there b o e hx
      exact ⟨o',(hs.2 b (Nat.ne_of_lt (Nat.lt_of_lt_of_le (Heap.lt_size e) (I.ok.cab x c hfn hc)))).trans e1⟩
    · by_cases hj : j = i
      · subst hj
        rw [hi] at e1; cases e1
        rw [List.getElem?_set_self hiσ] at e2
        cases e2
        exact ⟨u, r, .inr ⟨.inl hk, c, hc, hc'⟩⟩
      · rw [List.getElem?_set_ne (Ne.symm hj)] at e2
        obtain ⟨u', r', q⟩ := hl j y v' e1 e2 e3
        refine ⟨u', r', ?_⟩
        rcases q with q | ⟨k, c', e, z'⟩
        · exact .inl q
        · refine .inr ⟨k, c', e, z'.sameBut hs ?_⟩
          rintro rfl
          exact hj (nodup_ix hN e1 (I.ok.inj _ _ _ e hc ▸ hi))
    · by_cases hcc : c' = c
      · subst hcc; exact ⟨_, hc'⟩
      · obtain ⟨w2, z2⟩ := I.cell y c' e
        exact ⟨w2, z2.sameBut hs hcc⟩
    · obtain ⟨e, n, ne, nf, d⟩ := I.pin p hp
      refine ⟨(hs.2 p.1 ?_).trans e, n, ne, nf, d⟩
      intro q
      rw [q, hoc] at e
      have q' : oc = p.2 := Option.some.inj e
      exact d w' (by rw [← q']; exact hocd)
theorem store_ok {M:Model} {A:Around} {E:Value→Shared→Prop} {i:Nat} {x:Str} {v:V} {u:Value} {Q:Unit→Shared→Prop} (I:Inv X pins σ H s) (hN:X.N.Nodup) (hi:X.N[i]? = some x) (hx:Loc X.env.scope x) (r:RelV v u)
    (h:∀ s',Inv X pins (σ.set i (some v)) H s'→Q () s') (hf:X.fn x = true ∨ X.env.scope.names.lookup x = some .local:=by first | exact .inl rfl | exact .inr rfl | assumption):wpAny M A (storeName X.env x u) Q E s :=
  store_ok2 I hN hi hx r (fun s' I' _ => h s' I') hf
theorem Inv.call' {s':Shared} {ch:List Addr} (I:Inv X pins σ H s) (ho:s'.os = s.os) (u:Un (frs X.stack) ch H H' s.heap s'.heap) (hok:HOk X.prog X.w H' s'.heap) (hg:AllBare s'.gens)
    (hch:∀ b ∈ ch,(b ∈ X.ex ∨ X.s₀.heap.objs.size ≤ b)∧b ≠ X.env.locals∧(∀ x c,X.env.cells.lookup x = some c→c ≠ b)∧∀ p ∈ X.pn ++ pins,p.1 ≠ b):Inv X pins σ H' s':=by
  obtain ⟨h', g', d', t', o'⟩ := s'
  have e : o' = s.os := ho
  subst e
  exact I.call (g' := g') (t' := t') (d' := d') u hok hg hch
end
abbrev XK := Value → Option Addr → Hp → Prop
abbrev St := List (Option V)
abbrev VK := V → Hp → Prop
abbrev TE := St → Hp → VK → Prop
abbrev TT := St → Hp → (Bool → Hp → Prop) → Prop
abbrev TA := St → Hp → (List V → Hp → Prop) → Prop
structure Ends where
  nx : St → Hp → Prop
  rt : VK
  bk : St → Hp → Prop := fun _ _ => False
  ct : St → Hp → Prop := fun _ _ => False
abbrev TS := Ends → St → Hp → Prop
def EP (X:Cx) (pins:List (Addr × Obj)) (σ:St) (Q:VK) (u:Value) (s':Shared):Prop:=∃ v H',Inv X pins σ H' s'∧RelV v u∧Q v H'
def TP (X:Cx) (pins:List (Addr × Obj)) (σ:St) (Q:Bool→Hp→Prop) (b:Bool) (s':Shared):Prop:=∃ H',Inv X pins σ H' s'∧Q b H'
def AP (X:Cx) (pins:List (Addr × Obj)) (σ:St) (Q:List V→Hp→Prop) (us:List Value) (s':Shared):Prop:=∃ vs H',Inv X pins σ H' s'∧Vals vs us∧Q vs H'
def SP (X:Cx) (pins:List (Addr × Obj)) (D:Ends) (f:Flow) (s':Shared):Prop :=
  match f with
  | .next => ∃ σ' H', Inv X pins σ' H' s' ∧ D.nx σ' H'
  | .brk => ∃ σ' H', Inv X pins σ' H' s' ∧ D.bk σ' H'
  | .cont => ∃ σ' H', Inv X pins σ' H' s' ∧ D.ct σ' H'
  | .ret u=>∃ v σ' H',Inv X pins σ' H' s'∧RelV v u∧D.rt v H'
def PE (X : Cx) (e : Expr) (t : TE) : Prop :=
  ∀ (pins:List (Addr × Obj)) (s:Shared) (σ:St) (H:Hp) (Q:VK),Inv X pins σ H s→t σ H Q→wpAny (model X.prog X.w) X.A (eval e X.env) (EP X pins σ Q) X.xe s
def PT (X : Cx) (e : Expr) (t : TT) : Prop :=
  ∀ (pins:List (Addr × Obj)) (s:Shared) (σ:St) (H:Hp) (Q:Bool→Hp→Prop),Inv X pins σ H s→t σ H Q→wpAny (model X.prog X.w) X.A (isTrue e X.env (eval e X.env)) (TP X pins σ Q) X.xe s
def PW (X : Cx) (e : Expr) (t : TT) : Prop :=
  ∀ (whole:Sem Value) (pins:List (Addr × Obj)) (s:Shared) (σ:St) (H:Hp) (Q:Bool→Hp→Prop),Inv X pins σ H s→t σ H Q→wpAny (model X.prog X.w) X.A (isTrue e X.env whole) (TP X pins σ Q) X.xe s
theorem PW.pt {X:Cx} {e:Expr} {t:TT} (h:PW X e t):PT X e t:=h _
def PA (X : Cx) (es : List Expr) (t : TA) : Prop :=
  ∀ (pos:Pos) (pins:List (Addr × Obj)) (s:Shared) (σ:St) (H:Hp) (Q:List V→Hp→Prop),Inv X pins σ H s→t σ H Q→wpAny (model X.prog X.w) X.A (spliced (backTo pos (starEach es X.env))) (AP X pins σ Q) X.xe s
def PS (X : Cx) (st : Stmt) (t : TS) : Prop :=
  ∀ (pins:List (Addr × Obj)) (s:Shared) (σ:St) (H:Hp) (D:Ends),Inv X pins σ H s→t D σ H→wpAny (model X.prog X.w) X.A (exec st X.env) (SP X pins D) X.xe s
def PSs (X : Cx) (st : List Stmt) (t : TS) : Prop :=
  ∀ (pins:List (Addr × Obj)) (s:Shared) (σ:St) (H:Hp) (D:Ends),Inv X pins σ H s→t D σ H→wpAny (model X.prog X.w) X.A (execs st X.env) (SP X pins D) X.xe s
theorem thn {α:Type} {t:Sem α} {Q Q':α→Shared→Prop} {M:Model} {A:Around} {E:Value→Shared→Prop} {s:Shared} (h:wpAny M A t Q E s) (hQ:∀ a s,Q a s→Q' a s):wpAny M A t Q' E s:=wpAny_mono h hQ fun _ _ x=>x
end L2
namespace L2
open PySem PySem.Spec PyProof.Rows
section
variable {X : Cx}
def tVar (i:Nat):TE:=fun σ H Q=>∃ v,σ[i]? = some (some v)∧Q v H
def tC (v : V) : TE := fun _ H Q => Q v H
theorem pe_var {i:Nat} {x:Str} {pos:Pos} (hN:X.N[i]? = some x) (hv:Vis X.env.scope x) (hd:(x == ("__debug__":Str)) = false:=by decide) (hcd:(x == ("__classdict__":Str)) = false:=by decide):PE X (.Name x pos) (tVar i):=by
  intro pins s σ H Q I h
  obtain ⟨v, e, h⟩ := h
  obtain ⟨m, hn, hl⟩ := I.loc
  obtain ⟨u, r, l⟩ := hl i x v hN e hv
  have fin : EP X pins σ Q u s := ⟨v, H, I, r, h⟩
  rcases l with ⟨hk, hm⟩ | ⟨hk, c, hc, hcell⟩
  · exact wpAny_Name (wpAny_loadName_local I.ok.kind hk hn hm fin) hd
  · rcases hk with hk | hk
    · exact wpAny_Name (wpAny_loadName_cell I.ok.kind hk hc hcell fin) hd
    · exact wpAny_Name (wpAny_loadName_free I.ok.kind hk hc hcell fin hcd) hd
theorem pe_int {i j pos}:PE X (.Constant (.int i) j pos) (tC (.int i)):=fun _ _ _ H _ I h=>wpAny_Constant_int ⟨.int i,H,I.tok _,⟨_,rfl⟩,h⟩
theorem pe_bl {b j pos}:PE X (.Constant (.bool b) j pos) (tC (.bl b)):=fun _ _ _ H _ I h=>Constant_bool ⟨.bl b,H,I,rfl,h⟩
theorem pe_non {j pos}:PE X (.Constant .none j pos) (tC .non):=fun _ _ _ H _ I h=>Constant_none ⟨.non,H,I,rfl,h⟩
theorem pe_str {x j pos}:PE X (.Constant (.str x) j pos) (tC (.str x)):=fun _ _ _ H _ I h=>Calls.Constant_str ⟨.str x,H,I.tok _,⟨_,rfl⟩,h⟩
def Gl (X:Cx) (x:Str):Prop:=X.env.kindOf x = some .globalImplicit
theorem ld_glob {E:Value→Shared→Prop} {pins:List (Addr × Obj)} {s:Shared} {σ:St} {H:Hp} {x:Str} {u:Value} {pos:Pos} {Q:Value→Shared→Prop} (I:Inv X pins σ H s) (hg:Gl X x) (hm:X.mg x = some u) (h:Q u s)
    (hd:(x == ("__debug__":Str)) = false:=by decide):wpAny (model X.prog X.w) X.A (eval (.Name x pos) X.env) Q E s :=
  Calls.Name_function_global I.ok.kind hg (Calls.loadGlobal_global (by rw [I.ok.glob]; exact I.mod.glob.keeps I.bk) hm h) hd
theorem ld_blt {E:Value→Shared→Prop} {pins:List (Addr × Obj)} {s:Shared} {σ:St} {H:Hp} {x:Str} {u:Value} {pos:Pos} {Q:Value→Shared→Prop} (I:Inv X pins σ H s) (hg:Gl X x) (hm:X.mg x = none) (hv:bootBuiltins x = some u) (h:Q u s)
    (hn:x ≠ "__name__":=by decide) (hd:(x == ("__debug__":Str)) = false:=by decide):wpAny (model X.prog X.w) X.A (eval (.Name x pos) X.env) Q E s:=by
  obtain ⟨mb, h1, h2⟩ := I.mod.blt
  exact Calls.Name_function_global I.ok.kind hg (Calls.loadGlobal_builtin (by rw [I.ok.glob]; exact I.mod.glob.keeps I.bk) hm (by rw [I.ok.blt]; exact h1.keeps I.bk) ((h2 x hn).trans hv) h) hd
theorem pe_glob {x:Str} {v:V} {u:Value} {pos:Pos} (hg:Gl X x) (hm:X.mg x = some u) (r:RelV v u) (hd:(x == ("__debug__":Str)) = false:=by decide):PE X (.Name x pos) (tC v) :=
  fun _ _ _ H _ I h => ld_glob I hg hm ⟨v, H, I, r, h⟩ hd
theorem pe_bltn {x:Str} {v:V} {u:Value} {pos:Pos} (hg:Gl X x) (hm:X.mg x = none) (hv:bootBuiltins x = some u) (r:RelV v u) (hn:x ≠ "__name__":=by decide) (hd:(x == ("__debug__":Str)) = false:=by decide):PE X (.Name x pos) (tC v) :=
  fun _ _ _ H _ I h=>ld_blt I hg hm hv ⟨v,H,I,r,h⟩ hn hd
variable {a b : Expr} {ta tb : TE} {pos : Pos}
def PC (X : Cx) (op : CmpOp) (a b : Expr) (t : TE) : Prop :=
  ∀ (pins:List (Addr × Obj)) (s:Shared) (σ:St) (H:Hp) (Q:VK),Inv X pins σ H s→t σ H Q →
    wpAny (model X.prog X.w) X.A (eval a X.env) (fun v s₁=>wpAny (model X.prog X.w) X.A (eval b X.env) (fun u s₂=>wpAny (model X.prog X.w) X.A (compareOp op v u) (EP X pins σ Q) X.xe s₂) X.xe s₁) X.xe s
theorem nobehind (b:Expr) {op:CmpOp} (h:op ≠ .In) (h2:op ≠ .NotIn):behindInMarks op b = false:=by
  have e1:(op == CmpOp.In) = false:=by cases op <;> first | rfl | exact absurd rfl h
  have e2:(op == CmpOp.NotIn) = false:=by cases op <;> first | rfl | exact absurd rfl h2
  cases b <;> simp [behindInMarks, e1, e2]
def tIsN (ta:TE):TE:=fun σ H Q=>ta σ H fun x H1=>Q (.bl (decide (x = .non))) H1
def tNotN (ta:TE):TE:=fun σ H Q=>ta σ H fun x H1=>Q (.bl (!decide (x = .non))) H1
theorem RelV.none_iff {x:V} {v:Value} (r:RelV x v):(v == Value.none) = decide (x = .non):=by
  cases x with
  | non => cases r; rfl
  | bl _ => cases r; rfl
  | int _ => obtain ⟨t, rfl⟩ := r; rfl
  | str _ => obtain ⟨t, rfl⟩ := r; rfl
  | byt _ => obtain ⟨t, rfl⟩ := r; rfl
  | flt _ => obtain ⟨t, rfl⟩ := r; rfl
  | ref _ => cases r; rfl
  | ty _ => cases r; rfl
theorem pc_isN {j pos'} (ha:PE X a ta):PC X .Is a (.Constant .none j pos') (tIsN ta):=by
  intro pins s σ H Q I h
  refine thn (ha pins s σ H _ I h) fun v s1 ⟨x,H1,I1,r1,q1⟩=>?_
  exact Constant_none (is_none_gen ⟨.bl _,H1,I1,by rw [r1.none_iff]; rfl,q1⟩)
theorem pc_notN {j pos'} (ha:PE X a ta):PC X .IsNot a (.Constant .none j pos') (tNotN ta):=by
  intro pins s σ H Q I h
  refine thn (ha pins s σ H _ I h) fun v s1 ⟨x,H1,I1,r1,q1⟩=>?_
  exact Constant_none (isnot_none_gen ⟨.bl _,H1,I1,by rw [r1.none_iff]; rfl,q1⟩)
def tB (t:TE):TT:=fun σ H Q=>t σ H fun x H1=>∃ c,x = .bl c∧Q c H1
theorem pe_cmp {op:CmpOp} {t:TE} (h:PC X op a b t) (h1:behindInMarks op b = false:=by first | exact nobehind _ (by decide) (by decide) | rfl):PE X (.Compare a [op] [b] pos) t:=fun pins s σ H Q I hw=>wpAny_Compare1 (h pins s σ H Q I hw) h1
theorem pt_cmp {op:CmpOp} {t:TE} (h:PC X op a b t) (h1:behindInMarks op b = false:=by first | exact nobehind _ (by decide) (by decide) | rfl):PT X (.Compare a [op] [b] pos) (tB t):=by
  intro pins s σ H Q I hw
  refine wpAny_isTrue_Compare1 (thn (h pins s σ H _ I hw) fun v s1 h1=>thn h1 fun u s2 h2=>thn h2 fun c s3 ⟨x,H1,I1,r1,q1⟩=>?_) h1
  obtain ⟨d, rfl, q⟩ := q1
  cases r1
  exact wpAny_truthy_bool ⟨H1, I1, q⟩
theorem pt_val {e:Expr} {t:TE} (h:PE X e t) (he:∀ whole,isTrue e X.env whole = (do let v ← whole; standAt e.pos; holding [v] (truthy v)):=by intro _; rfl):PT X e (tB t):=by
  intro pins s σ H Q I hw
  refine isTrue_plain (thn (h pins s σ H _ I hw) fun v s1 ⟨x,H1,I1,r1,q1⟩=>?_) (he _)
  obtain ⟨d, rfl, q⟩ := q1
  cases r1
  exact wpAny_truthy_bool ⟨H1, I1, q⟩
variable {tA tB' : TT} {rest : List Expr}
def tAnd (t u:TT):TT:=fun σ H Q=>t σ H fun c H1=>if c = true then u σ H1 Q else Q false H1
def tOr (t u:TT):TT:=fun σ H Q=>t σ H fun c H1=>if c = true then Q true H1 else u σ H1 Q
def tNot (t:TT):TT:=fun σ H Q=>t σ H fun c H1=>Q (!c) H1
theorem pw_and1 (ha:PT X a tA):PW X (.BoolOp .And [a] pos) tA:=by
  intro wh pins s σ H Q I h
  refine isTrue_and (thn (ha pins s σ H Q I h) fun c s1 e=>?_)
  cases c with
  | true => exact isTrue_and_nil e
  | false => exact e
theorem pw_or1 (ha:PT X a tA):PW X (.BoolOp .Or [a] pos) tA:=by
  intro wh pins s σ H Q I h
  refine isTrue_or (thn (ha pins s σ H Q I h) fun c s1 e=>?_)
  cases c with
  | false => exact isTrue_or_nil e
  | true => exact e
theorem pw_and (ha:PT X a tA) (hb:PW X (.BoolOp .And (b :: rest) pos) tB'):PW X (.BoolOp .And (a :: b :: rest) pos) (tAnd tA tB'):=by
  intro wh pins s σ H Q I h
  refine isTrue_and (thn (ha pins s σ H _ I h) fun c s1 ⟨H1,I1,q1⟩=>?_)
  cases c with
  | true => exact hb wh pins s1 σ H1 Q I1 q1
  | false => exact ⟨H1, I1, q1⟩
theorem pw_or (ha:PT X a tA) (hb:PW X (.BoolOp .Or (b :: rest) pos) tB'):PW X (.BoolOp .Or (a :: b :: rest) pos) (tOr tA tB'):=by
  intro wh pins s σ H Q I h
  refine isTrue_or (thn (ha pins s σ H _ I h) fun c s1 ⟨H1,I1,q1⟩=>?_)
  cases c with
  | true => exact ⟨H1, I1, q1⟩
  | false => exact hb wh pins s1 σ H1 Q I1 q1
theorem pt_not (ha:PT X a tA):PT X (.UnaryOp .Not a pos) (tNot tA):=by
  intro pins s σ H Q I h
  exact isTrue_not (ha pins s σ H (fun c H1=>Q (!c) H1) I h)
def tAndV (ta tb:TE):TE:=fun σ H Q=>ta σ H fun x H1=>∃ c,x = .bl c∧if c = true then tb σ H1 Q else Q (.bl false) H1
def tNotV (ta:TE):TE:=fun σ H Q=>ta σ H fun x H1=>∃ c,x = .bl c∧Q (.bl (!c)) H1
theorem pe_one {op} {t:TE} (h:PE X a t):PE X (.BoolOp op [a] pos) t:=fun pins s σ H Q I hw=>BoolOp_one (h pins s σ H Q I hw)
theorem pe_and (ha:PE X a ta) (hb:PE X (.BoolOp .And (b :: rest) pos) tb):PE X (.BoolOp .And (a :: b :: rest) pos) (tAndV ta tb):=by
  intro pins s σ H Q I h
  refine BoolOp_and (thn (ha pins s σ H _ I h) fun v s1 ⟨x,H1,I1,r1,q1⟩=>?_)
  obtain ⟨c, rfl, q1⟩ := q1
  cases r1
  refine wpAny_truthy_bool ?_
  cases c with
  | true => exact hb pins s1 σ H1 Q I1 q1
  | false => exact ⟨.bl false, H1, I1, rfl, q1⟩
theorem pe_not (ha:PE X a ta):PE X (.UnaryOp .Not a pos) (tNotV ta):=by
  intro pins s σ H Q I h
  refine UnaryOp_ (thn (ha pins s σ H _ I h) fun v s1 ⟨x,H1,I1,r1,q1⟩=>?_)
  obtain ⟨c, rfl, q1⟩ := q1
  cases r1
  exact not_of (wpAny_truthy_bool ⟨.bl (!c),H1,I1,rfl,q1⟩)
def tIf (t:TT) (ta tb:TE):TE:=fun σ H Q=>t σ H fun c H1=>if c = true then ta σ H1 Q else tb σ H1 Q
theorem pe_ifExp {c:Expr} (hc:PT X c tA) (ha:PE X a ta) (hb:PE X b tb):PE X (.IfExp c a b pos) (tIf tA ta tb):=by
  intro pins s σ H Q I h
  refine wpAny_IfExp (thn (hc pins s σ H _ I h) fun d s1 ⟨H1,I1,q1⟩=>?_)
  cases d with
  | true => exact ha pins s1 σ H1 Q I1 q1
  | false => exact hb pins s1 σ H1 Q I1 q1
end
end L2
namespace L2
open PySem PySem.Spec PyProof.Rows
def SqL (K:PySem.W.Frag) (H:Hp) (a:Addr) (xs:List V):Prop :=
  Rd H a (.lst xs) ∨
    ∃ (o:Obj) (its:Array Value) (n:Nat),K.lookup a = some o∧o.cls = .type "list"∧o.dict = none∧o.data = .seq its n∧its.size ≤ sizeLine∧Vals xs its.toList
def SqT (K:PySem.W.Frag) (H:Hp) (a:Addr) (xs:List V):Prop :=
  Rd H a (.tup xs) ∨
    ∃ (o:Obj) (its:Array Value) (n:Nat),K.lookup a = some o∧o.cls = .type "tuple"∧o.data = .seq its n∧its.size ≤ sizeLine∧Vals xs its.toList
def absV : Value → Option V
  | .none => some .non
  | .bool b => some (.bl b)
  | .int i _ => some (.int i)
  | .str x _ => some (.str x)
  | .bytes b _ => some (.byt b)
  | .float b _ => some (.flt b)
  | .ref a => some (.ref a)
  | .type n => some (.ty n)
  | _ => none
theorem RelV.abs {x:V} {u:Value} (r:RelV x u):absV u = some x:=by
  cases x with
  | non => cases r; rfl
  | bl _ => cases r; rfl
  | int _ => obtain ⟨t, rfl⟩ := r; rfl
  | str _ => obtain ⟨t, rfl⟩ := r; rfl
  | byt _ => obtain ⟨t, rfl⟩ := r; rfl
  | flt _ => obtain ⟨t, rfl⟩ := r; rfl
  | ref _ => cases r; rfl
  | ty _ => cases r; rfl
theorem RelV.inj {x y:V} {u:Value} (r:RelV x u) (q:RelV y u):x = y:=Option.some.inj (r.abs.symm.trans q.abs)
theorem Vals.inj:∀ {xs ys:List V} {us:List Value},Vals xs us→Vals ys us→xs = ys
  | _, _, _, .nil, .nil => rfl
  | _,_,_,.cons r t,.cons r' t'=>by rw [r.inj r',Vals.inj t t']
section
variable {X:Cx} {pins:List (Addr × Obj)} {σ:St} {H:Hp} {s:Shared} {a:Addr} {xs ys:List V}
theorem SqL.of {K:PySem.W.Frag} (h:H a = some (.lst xs)):SqL K H a xs:=.inl (.inl h)
theorem SqT.of {K:PySem.W.Frag} (h:H a = some (.tup xs)):SqT K H a xs:=.inl (.inl h)
theorem Inv.list (I:Inv X pins σ H s) (h:SqL X.K H a xs):∃ its:List Value,Vals xs its∧PlainL s.heap a its.toArray∧xs.length ≤ sizeLine:=by
  rcases h with h | ⟨o, its, n, hk, hc, hd, hs, hz, r⟩
  · obtain ⟨z, its, n, r, e⟩ := h.ok I.hok
    exact ⟨its, r, ⟨_, n, e, rfl, rfl, rfl⟩, z⟩
  · refine ⟨its.toList,r,⟨o,n,I.kIn a o hk,hc,hd,by simpa using hs⟩,?_⟩
    have e := r.length
    simp only [Array.length_toList] at e
    omega
theorem Inv.tuple (I:Inv X pins σ H s) (h:SqT X.K H a xs):∃ its:List Value,Vals xs its∧IsTup s.heap a its.toArray∧xs.length ≤ sizeLine:=by
  rcases h with h | ⟨o, its, n, hk, hc, hs, hz, r⟩
  · obtain ⟨z, its, r, p⟩ := h.ok I.hok
    exact ⟨its, r, p, z⟩
  · refine ⟨its.toList,r,⟨o,I.kIn a o hk,hc,n,by simpa using hs⟩,?_⟩
    have e := r.length
    simp only [Array.length_toList] at e
    omega
theorem Inv.list_inj (I:Inv X pins σ H s) (h:SqL X.K H a xs) (h':SqL X.K H a ys):xs = ys:=by
  obtain ⟨its, r, ⟨o, n, e, _, _, d⟩, _⟩ := I.list h
  obtain ⟨its', r', ⟨o', n', e', _, _, d'⟩, _⟩ := I.list h'
  rw [e] at e'; cases e'
  rw [d] at d'
  injection d' with d1 _
  have:its = its':=by simpa using congrArg Array.toList d1
  subst this
  exact r.inj r'
theorem Inv.tuple_inj (I:Inv X pins σ H s) (h:SqT X.K H a xs) (h':SqT X.K H a ys):xs = ys:=by
  obtain ⟨its, r, ⟨o, e, _, n, d⟩, _⟩ := I.tuple h
  obtain ⟨its', r', ⟨o', e', _, n', d'⟩, _⟩ := I.tuple h'
  rw [e] at e'; cases e'
  rw [d] at d'
  injection d' with d1 _
  have:its = its':=by simpa using congrArg Array.toList d1
  subst this
  exact r.inj r'
end
abbrev Cx.wish (X:Cx) (E:Value→Shared→Prop):Cx:={ X with xe:=E }
abbrev Cx.nox (X : Cx) : Cx := X.wish fun _ _ => False
theorem Cx.Ok.wish {X:Cx} (ok:X.Ok) (E:Value→Shared→Prop):(X.wish E).Ok :=
  ⟨ok.mod,ok.kind,ok.glob,ok.blt,ok.above,ok.inj,ok.has,ok.cab,ok.hd,ok.frames,ok.stk,ok.exf,ok.bs,ok.bsz,ok.noex,ok.exfs,ok.funs,ok.frf⟩
theorem Cx.Ok.unwish {X:Cx} {E:Value→Shared→Prop} (ok:(X.wish E).Ok):X.Ok :=
  ⟨ok.mod,ok.kind,ok.glob,ok.blt,ok.above,ok.inj,ok.has,ok.cab,ok.hd,ok.frames,ok.stk,ok.exf,ok.bs,ok.bsz,ok.noex,ok.exfs,ok.funs,ok.frf⟩
section
variable {X:Cx} {pins:List (Addr × Obj)} {σ:St} {H:Hp} {s:Shared} {E:Value→Shared→Prop}
theorem Inv.wish (I:Inv X pins σ H s) (E:Value→Shared→Prop):Inv (X.wish E) pins σ H s:=⟨I.ok.wish E,I.os,I.bare,I.base,I.loc,I.cell,I.free,I.freeC,I.pin,I.hok,I.len⟩
theorem Inv.unwish (I:Inv (X.wish E) pins σ H s):Inv X pins σ H s:=⟨I.ok.unwish,I.os,I.bare,I.base,I.loc,I.cell,I.free,I.freeC,I.pin,I.hok,I.len⟩
theorem SP.unwish {D:Ends} {f:Flow} {s':Shared} (h:SP (X.wish E) pins D f s'):SP X pins D f s':=by
  cases f with
  | next=>obtain ⟨σ',H',I,q⟩:=h; exact ⟨σ',H',I.unwish,q⟩
  | brk=>obtain ⟨σ',H',I,q⟩:=h; exact ⟨σ',H',I.unwish,q⟩
  | cont=>obtain ⟨σ',H',I,q⟩:=h; exact ⟨σ',H',I.unwish,q⟩
  | ret u=>obtain ⟨v,σ',H',I,r,q⟩:=h; exact ⟨v,σ',H',I.unwish,r,q⟩
theorem PSs.nox {st:List Stmt} {t:TS} (h:PSs X.nox st t):PSs X st t:=fun pins s σ H D I hw =>
  wpAny_mono (h pins s σ H D (I.wish _) hw) (fun _ _ q=>q.unwish) fun _ _ z=>False.elim z
end
section
variable {X:Cx} {st:Stmt} {rest:List Stmt} {t u:TS} {e:Expr} {te:TE} {pos:Pos}
def tNext : TS := fun D σ H => D.nx σ H
def tSeq (t u:TS):TS:=fun D σ H=>t { D with nx:=u D } σ H
theorem pss_nil:PSs X [] tNext:=fun _ _ σ H _ I h=>wpAny_execs_nil ⟨σ,H,I,h⟩
theorem pss_cons (h1:PS X st t) (h2:PSs X rest u):PSs X (st :: rest) (tSeq t u):=by
  intro pins s σ H D I h
  refine wpAny_execs_cons (thn (h1 pins s σ H { D with nx:=u D } I h) fun f s1 q=>?_)
  cases f with
  | next =>
    obtain ⟨σ', H', I', q⟩ := q
    exact h2 pins s1 σ' H' D I' q
  | ret v => exact q
  | brk => exact q
  | cont => exact q
theorem pss_one (h1 : PS X st t) : PSs X [st] t := by
  intro pins s σ H D I h
  refine wpAny_execs_cons (thn (h1 pins s σ H D I h) fun f s1 q=>?_)
  cases f with
  | next => exact wpAny_execs_nil q
  | ret v => exact q
  | brk => exact q
  | cont => exact q
theorem Inv.quiet {pins:List (Addr × Obj)} {σ:St} {H:Hp} {s:Shared} (I:Inv X pins σ H s):interactive X.env = false:=by simp [interactive,I.ok.kind]
def tDrop (te:TE):TS:=fun D σ H=>te σ H fun _ H1=>D.nx σ H1
theorem ps_expr (he:PE X e te) (hs:swapsWith e none pos.line X.env = pure false:=by rfl):PS X (.Expr e pos) (tDrop te):=by
  intro pins s σ H D I h
  exact wpAny_Expr_any (thn (he pins s σ H _ I h) fun v s1 ⟨x,H1,I1,r1,q1⟩=>⟨σ,H1,I1,q1⟩) I.quiet hs
def tRet (te : TE) : TS := fun D σ H => te σ H D.rt
theorem ps_ret (he:PE X e te):PS X (.Return (some e) pos) (tRet te):=by
  intro pins s σ H D I h
  exact wpAny_Return_some (thn (he pins s σ H _ I h) fun v s1 ⟨x,H1,I1,r1,q1⟩=>⟨x,σ,H1,I1,r1,q1⟩)
def tIfS (c:TT) (t u:TS):TS:=fun D σ H=>c σ H fun b H1=>if b = true then t D σ H1 else u D σ H1
theorem ps_if {c:Expr} {a b:List Stmt} {tc:TT} (hc:PT X c tc) (ha:PSs X a t) (hb:PSs X b u):PS X (.If c a b pos) (tIfS tc t u):=by
  intro pins s σ H D I h
  refine wpAny_If (thn (hc pins s σ H _ I h) fun d s1 ⟨H1,I1,q1⟩=>?_)
  cases d with
  | true => exact ha pins s1 σ H1 D I1 q1
  | false => exact hb pins s1 σ H1 D I1 q1
def tNever : TS := fun _ _ _ => False
theorem ps_never:PS X st tNever:=fun _ _ _ _ _ _ h=>h.elim
end
abbrev TG := V → St → Hp → (St → Hp → Prop) → Prop
abbrev TGs := List V → St → Hp → (St → Hp → Prop) → Prop
def PG (X : Cx) (target : Expr) (t : TG) : Prop :=
  ∀ (pins:List (Addr × Obj)) (s:Shared) (σ:St) (H:Hp) (v:V) (u:Value) (Q:St→Hp→Prop),Inv X pins σ H s→RelV v u→t v σ H Q →
    wpAny (model X.prog X.w) X.A (assign target X.env u) (fun _ s'=>∃ σ' H',Inv X pins σ' H' s'∧Q σ' H') X.xe s
def PGs (X : Cx) (ts : List Expr) (t : TGs) : Prop :=
  ∀ (pins:List (Addr × Obj)) (s:Shared) (σ:St) (H:Hp) (vs:List V) (us:List Value) (Q:St→Hp→Prop),Inv X pins σ H s→Vals vs us→t vs σ H Q →
    wpAny (model X.prog X.w) X.A (assignInOrder ((assignEach ts X.env).map (·.2)) us) (fun _ s'=>∃ σ' H',Inv X pins σ' H' s'∧Q σ' H') X.xe s
abbrev TSet := V → V → V → Hp → (Hp → Prop) → Prop
def PSet (X : Cx) (t : TSet) : Prop :=
  ∀ (pins:List (Addr × Obj)) (s:Shared) (σ:St) (H:Hp) (o i v:V) (ov iv u:Value) (Q:Hp→Prop),Inv X pins σ H s→RelV o ov→RelV i iv→RelV v u→t o i v H Q →
    wpAny (model X.prog X.w) X.A (setItem ov iv u) (fun _ s'=>∃ H',Inv X pins σ H' s'∧Q H') X.xe s
section
variable {X : Cx} {pos : Pos}
def gName (i:Nat):TG:=fun v σ H Q=>Q (σ.set i (some v)) H
theorem pg_name {i:Nat} {x:Str} (hN:X.N.Nodup) (hi:X.N[i]? = some x) (hx:Loc X.env.scope x) (hf:X.fn x = true ∨ X.env.scope.names.lookup x = some .local:=by first | exact .inl rfl | exact .inr rfl | assumption):PG X (.Name x pos) (gName i):=by
  intro pins s σ H v u Q I r h
  exact wpAny_assign_Name (store_ok I hN hi hx r (fun s' I'=>⟨_,H,I',h⟩) hf)
def gNil : TGs := fun vs σ H Q => vs = [] ∧ Q σ H
def gCons (t:TG) (u:TGs):TGs:=fun vs σ H Q=>∃ v r,vs = v :: r∧t v σ H fun σ' H'=>u r σ' H' Q
theorem pgs_nil : PGs X [] gNil := by
  intro pins s σ H vs us Q I r h
  obtain ⟨e, h⟩ := h
  subst e
  cases r
  exact assignInOrder_nil ⟨σ, H, I, h⟩
theorem pgs_cons {e:Expr} {es:List Expr} {t:TG} {u:TGs} (h1:PG X e t) (h2:PGs X es u)
    (hs:(assignEach (e :: es) X.env).map (·.2) = assign e X.env :: (assignEach es X.env).map (·.2):=by rfl):PGs X (e :: es) (gCons t u):=by
  intro pins s σ H vs us Q I r h
  obtain ⟨v, vr, e1, h⟩ := h
  subst e1
  cases r with
  | cons r rr =>
    rw [hs]
    refine assignInOrder_cons (thn (h1 pins s σ H _ _ _ I r h) fun _ s1 ⟨σ1,H1,I1,q1⟩=>?_)
    exact h2 pins s1 σ1 H1 _ _ Q I1 rr q1
def gTup (K:PySem.W.Frag) (n:Nat) (t:TGs):TG:=fun v σ H Q=>∃ a xs,v = .ref a∧SqT K H a xs∧xs.length = n∧t xs σ H Q
theorem pg_tup {es:List Expr} {k:Nat} {t:TGs} {n:Nat} (hc:X.calm = true) (h:PGs X es t)
    (hn:(assignEach es X.env).length = n:=by rfl) (hst:(assignEach es X.env).findIdx? (·.1) = none:=by rfl):PG X (.Tuple es k pos) (gTup X.K n t):=by
  intro pins s σ H v u Q I r hw
  obtain ⟨a, xs, e1, hq, hl, hw⟩ := hw
  subst e1
  cases r
  obtain ⟨its, rv, ht, hz⟩ := I.tuple hq
  refine assign_Tuple_tuple (I.ok.hd hc) ht (by simp [hn,← hl,rv.length]) hst fun h' hx=>?_
  have I1:Inv X pins σ H { s with heap:=h' }:=I.kept (t':=s.toks) fun b o e=>hx b o (Nat.ne_of_lt (Heap.lt_size e)) e
  exact h pins _ σ H xs _ Q I1 (by simpa using rv) hw
def gSub (to ti:TE) (t:TSet):TG:=fun v σ H Q=>to σ H fun o H1=>ti σ H1 fun i H2=>t o i v H2 fun H3=>Q σ H3
theorem pg_sub {o i:Expr} {to ti:TE} {t:TSet} (ho:PE X o to) (hi:PE X i ti) (hs:PSet X t)
    (ha : ∀ v, assign (.Subscript o i pos) X.env v = (do
      let ov ← holding [v] (eval o X.env)
      let iv ← holding [v, ov] (eval i X.env)
      standAt pos
      holding [v, ov, iv] (setItem ov iv v)
      release [v,ov,iv] []):=by intro _; rfl):PG X (.Subscript o i pos) (gSub to ti t):=by
  intro pins s σ H v u Q I r h
  rw [ha]
  refine wpAny_bind (wpAny_holding (thn (ho pins s σ H _ I h) fun ov s1 ⟨x,H1,I1,r1,q1⟩=>?_))
  refine wpAny_bind (wpAny_holding (thn (hi pins s1 σ H1 _ I1 q1) fun iv s2 ⟨y,H2,I2,r2,q2⟩=>?_))
  refine wpAny_bind (wpAny_standAt (wpAny_bind (wpAny_holding (thn (hs pins s2 σ H2 x y v ov iv u _ I2 r1 r2 r q2) fun _ s3 ⟨H3,I3,q3⟩=>?_))))
  exact wpAny_release ⟨σ, H3, I3, q3⟩
def tAsg (te:TE) (g:TG):TS:=fun D σ H=>te σ H fun x H1=>g x σ H1 D.nx
theorem ps_asg {tg e:Expr} {te:TE} {g:TG} (he:PE X e te) (hg:PG X tg g) (hs:swapsWithSole [tg] e pos.line X.env = pure false:=by rfl) (hw:swappedStores [tg] e X.env = pure none:=by rfl)
    (h1:(assignEach [tg] X.env).map (·.2) = [assign tg X.env]:=by rfl):PS X (.Assign [tg] e pos) (tAsg te g):=by
  intro pins s σ H D I h
  refine wpAny_Assign_stores (thn (he pins s σ H _ I h) fun v s1 ⟨x,H1,I1,r1,q1⟩=>?_) hs hw
  rw [h1]
  exact thn (hg pins s1 σ H1 x v _ I1 r1 q1) fun _ s2 q => q
theorem ps_set {i:Nat} {x:Str} {e:Expr} {te:TE} {pos':Pos} (hN:X.N.Nodup) (hi:X.N[i]? = some x) (hx:Loc X.env.scope x) (he:PE X e te) (hs:swapsWith e (some (.Name x pos')) pos.line X.env = pure false:=by rfl) (hf:X.fn x = true ∨ X.env.scope.names.lookup x = some .local:=by first | exact .inl rfl | exact .inr rfl | assumption) :
    PS X (.Assign [.Name x pos'] e pos) (tAsg te (gName i)):=by
  intro pins s σ H D I h
  refine wpAny_Assign_Name (thn (he pins s σ H _ I h) fun v s1 ⟨y,H1,I1,r1,q1⟩=>?_) hs
  exact store_ok I1 hN hi hx r1 (fun s2 I2=>⟨_,H1,I2,q1⟩) hf
end
section
variable {X : Cx} {pos : Pos}
end
structure It where
  go : Nat → Hp → Prop
  yld : Nat → Hp → V → Hp → Prop
  stop : Nat → Hp → Prop
def FpOk (X:Cx) (pins:List (Addr × Obj)) (H:Hp) (b:Addr):Prop :=
  H b = none∧b ≠ X.env.locals∧b ∉ X.fs∧(b ∈ X.ex ∨ X.s₀.heap.objs.size ≤ b)∧(∀ x c,X.env.cells.lookup x = some c→c ≠ b)∧∀ p ∈ X.pn ++ pins,p.1 ≠ b
theorem Inv.fpOk {X:Cx} {pins:List (Addr × Obj)} {σ:St} {H H':Hp} {s:Shared} {b:Addr} (I:Inv X pins σ H s) (hb:s.heap.objs.size ≤ b) (hn:H' b = none):FpOk X pins H' b:=by
  refine ⟨hn,Nat.ne_of_gt (Nat.lt_of_lt_of_le I.lt hb),I.nofs hb,.inr (Nat.le_trans I.sz hb),fun x c e z=>?_,fun p hp z=>?_⟩
  · obtain ⟨v, q⟩ := I.cell x c e
    exact absurd (Nat.lt_of_lt_of_le q.lt (by rw [z]; exact hb)) (Nat.lt_irrefl _)
  · exact absurd (Nat.lt_of_lt_of_le (Heap.lt_size (I.pin p hp).1) (by rw [z]; exact hb)) (Nat.lt_irrefl _)
structure Turn (P:Program) (w:World) (K:PySem.W.Frag) (tg:Expr) (J:It) (fp:List Addr) (it:Addr) (tn:Nat→Heap→Prop):Prop where
  mem : it ∈ fp
  obj:∀ i h,tn i h→∀ b ∈ fp,∃ o,h.get? b = some o∧∀ v,o.data ≠ .cell v
  keep:∀ i h h',tn i h→(∀ b ∈ fp,∀ o,h.get? b = some o→h'.get? b = some o)→tn i h'
  item:∀ (X:Cx),X.prog = P→X.w = w→X.K = K→X.calm = true→∀ (i:Nat) (pins:List (Addr × Obj)) (s:Shared) (σ:St) (H:Hp) (E:Value→Shared→Prop),Inv X pins σ H s→(∀ b ∈ fp,FpOk X pins H b)→tn i s.heap→J.go i H →
    wpAny (model P w) X.A (pyNext (.ref it)) (fun r s1=>∃ u,r = some u ∧
      wpAny (model P w) X.A (letOwnedTupleGo tg (.ref it) u) (fun _ s2=>∃ x H',Inv X pins σ H' s2∧RelV x u∧J.yld i H x H'∧tn (i + 1) s2.heap∧∀ b ∈ fp,H' b = none) E s1) E s
  done:∀ (X:Cx),X.prog = P→X.w = w→X.K = K→X.calm = true→∀ (i:Nat) (pins:List (Addr × Obj)) (s:Shared) (σ:St) (H:Hp) (E:Value→Shared→Prop),Inv X pins σ H s→(∀ b ∈ fp,FpOk X pins H b)→tn i s.heap→J.stop i H →
    wpAny (model P w) X.A (pyNext (.ref it)) (fun r s1=>r = none∧Inv X pins σ H s1) E s
  self:∀ (A:Around) (i:Nat) (s:Shared) (Q:Value→Shared→Prop) (E:Value→Shared→Prop),tn i s.heap→Q (.ref it) s→wpAny (model P w) A (pyIter (.ref it)) Q E s
abbrev TI := St → Hp → (It → Hp → Prop) → Prop
def PIE (X:Cx) (pins:List (Addr × Obj)) (σ:St) (tg:Expr) (R:It→Hp→Prop) (itv:Value) (s2:Shared):Prop :=
  ∃ (it:Addr) (fp:List Addr) (tn:Nat→Heap→Prop) (J:It) (H':Hp),itv = .ref it∧Inv X pins σ H' s2∧Turn X.prog X.w X.K tg J fp it tn∧tn 0 s2.heap∧(∀ b ∈ fp,FpOk X pins H' b)∧R J H'
def PI (X : Cx) (tg iter : Expr) (wi : TI) : Prop :=
  ∀ (pins:List (Addr × Obj)) (s:Shared) (σ:St) (H:Hp) (R:It→Hp→Prop),Inv X pins σ H s→wi σ H R →
    wpAny (model X.prog X.w) X.A (eval iter X.env) (fun v s1=>wpAny (model X.prog X.w) X.A (pyIter v) (PIE X pins σ tg R) X.xe s1) X.xe s
theorem go_of {M:Model} {A:Around} {E:Value→Shared→Prop} {s:Shared} {tg:Expr} {it:Addr} {u:Value} {o:Obj} {n:String} {vs:Array Value} {Q:Unit→Shared→Prop} (ho:s.heap.get? it = some o) (hc:o.cls = .type n) (hd:o.data = .fields vs)
    (hn:["enumerate","zip","dict_itemiterator","dict_reverseitemiterator","odict_iterator","itertools.zip_longest","itertools.pairwise"].contains n = false) (hQ:Q () s):wpAny M A (letOwnedTupleGo tg (.ref it) u) Q E s:=by
  unfold letOwnedTupleGo
  cases tg <;> first
    | exact wpAny_pure hQ
    | (cases u <;> first
        | exact wpAny_pure hQ
        | (refine wpAny_bind (wpAny_load ho ?_)
           rw [hc, hd]
           show wpAny M A (if (["enumerate","zip","dict_itemiterator","dict_reverseitemiterator","odict_iterator","itertools.zip_longest","itertools.pairwise"].contains n && vs[0]? == some (rawInt _)) = true then _ else _) Q E s
           rw [if_neg (by intro h; rw [hn,Bool.false_and] at h; cases h)]
           exact wpAny_pure hQ))
def Itl (K : PySem.W.Frag) (a : Addr) : It :=
  ⟨fun i H=>∃ xs x,SqL K H a xs∧xs[i]? = some x,fun i H x H'=>H' = H∧∀ xs,SqL K H a xs→xs[i]? = some x,fun i H=>∃ xs,SqL K H a xs∧xs.length ≤ i⟩
def Itt (K : PySem.W.Frag) (a : Addr) : It :=
  ⟨fun i H=>∃ xs x,SqT K H a xs∧xs[i]? = some x,fun i H x H'=>H' = H∧∀ xs,SqT K H a xs→xs[i]? = some x,fun i H=>∃ xs,SqT K H a xs∧xs.length ≤ i⟩
def Itr (lo:Int) (n:Nat):It:=⟨fun i _=>i < n,fun i H x H'=>H' = H∧x = .int (lo + i),fun i _=>n ≤ i⟩
theorem turn_list {P:Program} {w:World} {K:PySem.W.Frag} {tg:Expr} (a it:Addr):Turn P w K tg (Itl K a) [it] it (fun i h=>h.IsListIter it a i) where
  mem := by simp
  obj := fun i h st b hb => by
    have e : b = it := by simpa using hb
    subst e
    obtain ⟨o, e, c, d⟩ := st
    exact ⟨o, e, fun v z => by rw [d] at z; cases z⟩
  keep:=fun i h h' st k=>st.at fun o e=>k it (by simp) o e
  item := by
    intro X hP hw hK hc i pins s σ H E I hf st hg
    subst hP hw hK
    obtain ⟨xs, x, hq, hx⟩ := hg
    obtain ⟨its, rv, p, hz⟩ := I.list hq
    obtain ⟨u, hu, ru⟩ := rv.get hx
    obtain ⟨f0, f1, f2, f3, f4, f5⟩ := hf it (by simp)
    refine wpAny_pyNext_list_item st p.isList (x:=u) (by simpa using hu) fun h' st' sb=>?_
    have I1:Inv X pins σ H { s with heap:=h' }:=I.turned (t':=s.toks) (fun b o hb e=>(sb.2 b hb).trans e) f0 f1 f3 f4 f5
    obtain ⟨o, e, c, d⟩ := id st'
    exact ⟨u,rfl,go_of (s:={ s with heap:=h' }) e c d (by decide) ⟨x,H,I1,ru,⟨rfl,fun ys hy=>by rw [I.list_inj hy hq]; exact hx⟩,st',fun b hb=>(hf b hb).1⟩⟩
  done := by
    intro X hP hw hK hc i pins s σ H E I hf st hg
    subst hP hw hK
    obtain ⟨xs, hq, hx⟩ := hg
    obtain ⟨its, rv, p, hz⟩ := I.list hq
    obtain ⟨f0, f1, f2, f3, f4, f5⟩ := hf it (by simp)
    have hl := rv.length
    exact wpAny_pyNext_list_end (I.ok.hd hc) st p.isList (by simp; omega) fun h' eb=>⟨rfl,I.turned (t':=s.toks) (fun b o hb e=>eb b o hb e) f0 f1 f3 f4 f5⟩
  self := fun _ _ _ _ _ st h => wpAny_pyIter_listiter st h
theorem turn_tuple {P:Program} {w:World} {K:PySem.W.Frag} {tg:Expr} (a it:Addr):Turn P w K tg (Itt K a) [it] it (fun i h=>h.IsTupleIter it a i) where
  mem := by simp
  obj := fun i h st b hb => by
    have e : b = it := by simpa using hb
    subst e
    obtain ⟨o, e, c, d⟩ := st
    exact ⟨o, e, fun v z => by rw [d] at z; cases z⟩
  keep:=fun i h h' st k=>st.at fun o e=>k it (by simp) o e
  item := by
    intro X hP hw hK hc i pins s σ H E I hf st hg
    subst hP hw hK
    obtain ⟨xs, x, hq, hx⟩ := hg
    obtain ⟨its, rv, p, hz⟩ := I.tuple hq
    obtain ⟨u, hu, ru⟩ := rv.get hx
    obtain ⟨f0, f1, f2, f3, f4, f5⟩ := hf it (by simp)
    refine wpAny_pyNext_tuple_item st (show s.heap.IsTuple a its.toArray from p) (x:=u) (by simpa using hu) fun h' st' sb=>?_
    have I1:Inv X pins σ H { s with heap:=h' }:=I.turned (t':=s.toks) (fun b o hb e=>(sb.2 b hb).trans e) f0 f1 f3 f4 f5
    obtain ⟨o, e, c, d⟩ := id st'
    exact ⟨u,rfl,go_of (s:={ s with heap:=h' }) e c d (by decide) ⟨x,H,I1,ru,⟨rfl,fun ys hy=>by rw [I.tuple_inj hy hq]; exact hx⟩,st',fun b hb=>(hf b hb).1⟩⟩
  done := by
    intro X hP hw hK hc i pins s σ H E I hf st hg
    subst hP hw hK
    obtain ⟨xs, hq, hx⟩ := hg
    obtain ⟨its, rv, p, hz⟩ := I.tuple hq
    obtain ⟨f0, f1, f2, f3, f4, f5⟩ := hf it (by simp)
    have hl := rv.length
    exact wpAny_pyNext_tuple_end (I.ok.hd hc) st (show s.heap.IsTuple a its.toArray from p) (by simp; omega) fun h' eb=>⟨rfl,I.turned (t':=s.toks) (fun b o hb e=>eb b o hb e) f0 f1 f3 f4 f5⟩
  self := fun _ _ _ _ _ st h => wpAny_pyIter_tupleiter st h
theorem turn_range {P:Program} {w:World} {K:PySem.W.Frag} {tg:Expr} (it:Addr) (lo:Int) (n:Nat):Turn P w K tg (Itr lo n) [it] it (fun i h=>IsRangeIter h it (lo + (i:Nat) * 1) ((n:Int) - (i:Nat)) 1) where
  mem := by simp
  obj := fun i h st b hb => by
    have e : b = it := by simpa using hb
    subst e
    exact ⟨_, st, fun v z => by
      have z' : Data.fields _ = Data.cell v := z
      cases z'⟩
  keep := fun i h h' st k => k it (by simp) _ st
  item := by
    intro X hP hw hK hc i pins s σ H E I hf st hg
    subst hP hw hK
    obtain ⟨f0, f1, f2, f3, f4, f5⟩ := hf it (by simp)
    have W:=Walks.range (prog:=X.prog) (w:=X.w) (I.ok.hd hc) it lo 1 n
    refine W.item i s _ _ hg st fun v h' tk hv st' kk => ?_
    obtain ⟨t, rfl⟩ := hv
    have I1:Inv X pins σ H { s with heap:=h',toks:=tk }:=I.turned (fun b o hb e=>kk b o (by simpa using hb) e) f0 f1 f3 f4 f5
    refine ⟨_,rfl,go_of (s:={ s with heap:=h',toks:=tk }) (n:="range_iterator") st' rfl rfl (by decide) ⟨.int (lo + i),H,I1,⟨t,?_⟩,⟨rfl,rfl⟩,st',fun b hb=>(hf b hb).1⟩⟩
    rw [Int.mul_one]
  done := by
    intro X hP hw hK hc i pins s σ H E I hf st hg
    subst hP hw hK
    obtain ⟨f0, f1, f2, f3, f4, f5⟩ := hf it (by simp)
    exact wpAny_pyNext_range_end (I.ok.hd hc) st (by have:n ≤ i:=hg; omega) fun h' eb=>⟨rfl,I.turned (t':=s.toks) (fun b o hb e=>eb b o hb e) f0 f1 f3 f4 f5⟩
  self := fun _ _ _ _ _ st h => wpAny_pyIter_rangeiter st h
end L2
namespace L2
open PySem PySem.Spec PyProof.Rows
section
variable {X : Cx} {tg : Expr}
def iList (K:PySem.W.Frag) (tl:TE):TI:=fun σ H R=>tl σ H fun x H1=>∃ a,x = .ref a∧(∃ xs,SqL K H1 a xs)∧R (Itl K a) H1
def iTup (K:PySem.W.Frag) (tl:TE):TI:=fun σ H R=>tl σ H fun x H1=>∃ a,x = .ref a∧(∃ xs,SqT K H1 a xs)∧R (Itt K a) H1
theorem pi_list {l:Expr} {tl:TE} (hl:PE X l tl):PI X tg l (iList X.K tl):=by
  intro pins s σ H R I h
  refine thn (hl pins s σ H _ I h) fun v s1 ⟨x,H1,I1,r1,q1⟩=>?_
  obtain ⟨a, e, ⟨xs, hq⟩, q⟩ := q1
  subst e
  cases r1
  obtain ⟨its, rv, p, hz⟩ := I1.list hq
  refine wpAny_pyIter_list p.isList ?_
  refine ⟨s1.heap.objs.size,[s1.heap.objs.size],_,_,H1,rfl,I1.kept (t':=s1.toks) fun b o e=>Heap.get?_push_of_some _ e,turn_list a _,⟨_,Heap.get?_push_size _ rfl,rfl,rfl⟩,fun b hb=>?_,q⟩
  have e : b = s1.heap.objs.size := by simpa using hb
  subst e
  exact I1.fpOk (Nat.le_refl _) (I1.hok.fresh (Nat.le_refl _))
theorem pi_tup {l:Expr} {tl:TE} (hl:PE X l tl):PI X tg l (iTup X.K tl):=by
  intro pins s σ H R I h
  refine thn (hl pins s σ H _ I h) fun v s1 ⟨x,H1,I1,r1,q1⟩=>?_
  obtain ⟨a, e, ⟨xs, hq⟩, q⟩ := q1
  subst e
  cases r1
  obtain ⟨its, rv, p, hz⟩ := I1.tuple hq
  refine wpAny_pyIter_tuple (show s1.heap.IsTuple a its.toArray from p) ?_
  refine ⟨s1.heap.objs.size,[s1.heap.objs.size],_,_,H1,rfl,I1.kept (t':=s1.toks) fun b o e=>Heap.get?_push_of_some _ e,turn_tuple a _,⟨_,Heap.get?_push_size _ rfl,rfl,rfl⟩,fun b hb=>?_,q⟩
  have e : b = s1.heap.objs.size := by simpa using hb
  subst e
  exact I1.fpOk (Nat.le_refl _) (I1.hok.fresh (Nat.le_refl _))
theorem range_it {pins:List (Addr × Obj)} {σ:St} {H:Hp} {s:Shared} {R:It→Hp→Prop} {E:Value→Shared→Prop} {lo hi:Int} {t u v:Tok} {tk:Nat} (I:Inv X pins σ H s) (h1:-(2 ^ 62) ≤ lo) (h2:lo < 2 ^ 62) (h3:-(2 ^ 62) ≤ hi) (h4:hi < 2 ^ 62)
    (q:R (Itr lo (hi - lo).toNat) H):wpAny (model X.prog X.w) X.A (pyIter (.ref s.heap.objs.size)) (PIE X pins σ tg R) E { s with heap:=s.heap.push { cls:=.type "range",data:=.fields #[.int lo t,.int hi u,.int 1 v] },toks:=tk }:=by
  refine wpAny_pyIter_range (IsRange.new ..) (small_one h1 h2 h3 h4) ?_
  have I1:Inv X pins σ H { s with heap:=s.heap.push { cls:=.type "range",data:=.fields #[.int lo t,.int hi u,.int 1 v] },toks:=tk }:=I.kept fun b o e=>Heap.get?_push_of_some _ e
  refine ⟨(s.heap.push { cls:=.type "range",data:=.fields #[.int lo t,.int hi u,.int 1 v] }).objs.size,[(s.heap.push { cls:=.type "range",data:=.fields #[.int lo t,.int hi u,.int 1 v] }).objs.size],_,_,H,rfl,
    I1.kept (t':=tk) fun b o e=>Heap.get?_push_of_some _ e,turn_range _ lo (hi - lo).toNat,?_,fun b hb=>?_,q⟩
  · have e1 : lo + ((0 : Nat) : Int) * 1 = lo := by simp
    have e2:(((hi - lo).toNat:Nat):Int) - ((0:Nat):Int) = Builtin.Range.rangeSize lo hi 1:=by rw [rangeSize_one]; split <;> omega
    show IsRangeIter _ _ (lo + ((0:Nat):Int) * 1) ((((hi - lo).toNat:Nat):Int) - ((0:Nat):Int)) 1
    rw [e1, e2]
    exact Heap.get?_push_size _ rfl
  · have e:b = (s.heap.push { cls:=.type "range",data:=.fields #[.int lo t,.int hi u,.int 1 v] }).objs.size:=by simpa using hb
    subst e
    exact I1.fpOk (Nat.le_refl _) (I1.hok.fresh (Nat.le_refl _))
def iRng1 (ta:TA):TI:=fun σ H R=>ta σ H fun vs H1=>∃ j:Int,vs = [.int j]∧-(2 ^ 62) ≤ j∧j < 2 ^ 62∧R (Itr 0 j.toNat) H1
def iRng2 (ta:TA):TI:=fun σ H R=>ta σ H fun vs H1=>∃ i j:Int,vs = [.int i,.int j]∧(-(2 ^ 62) ≤ i∧i < 2 ^ 62∧-(2 ^ 62) ≤ j∧j < 2 ^ 62)∧R (Itr i (j - i).toNat) H1
theorem pi_range1 {a:Expr} {ta:TA} {p pos:Pos} (hg:Gl X "range") (hm:X.mg "range" = none) (ha:PA X [a] ta) (hs:starEach [a] X.env = [(false,eval a X.env)]:=by rfl):PI X tg (.Call (.Name "range" p) [a] [] pos) (iRng1 ta):=by
  intro pins s σ H R I h
  refine Call_ (ld_blt I hg hm boot_range (PyProof.Rows.callWith_type1 (thn (ha pos pins s σ H _ I h) fun us s1 ⟨vs,H1,I1,r1,q1⟩=>?_) hs rfl))
  obtain ⟨j, e, q1, q2, q⟩ := q1
  subst e
  cases r1 with
  | cons r rr =>
    cases rr
    obtain ⟨t, rfl⟩ := r
    exact call_range_1 (range_it I1 (by omega) (by omega) q1 q2 (by simpa using q))
theorem pi_range2 {a b:Expr} {ta:TA} {p pos:Pos} (hg:Gl X "range") (hm:X.mg "range" = none) (ha:PA X [a,b] ta) (hs:starEach [a,b] X.env = [(false,eval a X.env),(false,eval b X.env)]:=by rfl) (hs2:starEach [b] X.env = [(false,eval b X.env)]:=by rfl) :
    PI X tg (.Call (.Name "range" p) [a,b] [] pos) (iRng2 ta):=by
  intro pins s σ H R I h
  refine Call_ (ld_blt I hg hm boot_range (PyProof.Rows.callWith_type1 (thn (ha pos pins s σ H _ I h) fun us s1 ⟨vs,H1,I1,r1,q1⟩=>?_) (by rw [hs,hs2]) (by rw [hs2]; rfl)))
  obtain ⟨i, j, e, ⟨q1, q2, q3, q4⟩, q⟩ := q1
  subst e
  cases r1 with
  | cons r rr =>
    cases rr with
    | cons r' rr =>
      cases rr
      obtain ⟨t, rfl⟩ := r
      obtain ⟨t', rfl⟩ := r'
      exact call_range_2 (range_it I1 q1 q2 q3 q4 q)
def tFor (wi:TI) (g:TG) (tb:TS):TS:=fun D σ H=>wi σ H fun J H1=>∃ W:Nat→Nat→St→Hp→Prop,(∃ m,W 0 m σ H1)∧∀ i m σ H,W i m σ H →
  (J.stop i H∧D.nx σ H) ∨ (J.go i H∧∃ N:St→Hp→Prop,(∀ σ' H',N σ' H'→∃ m',m' < m∧W (i + 1) m' σ' H')∧∀ x H',J.yld i H x H'→g x σ H' fun σ2 H2=>tb { D with nx:=N,ct:=N,bk:=D.nx } σ2 H2)
def pinsAt (fp:List Addr) (h:Heap):List (Addr × Obj):=fp.filterMap fun b=>(h.get? b).map fun o=>(b,o)
theorem mem_pinsAt {fp:List Addr} {h:Heap} {b:Addr} {o:Obj} (hb:b ∈ fp) (e:h.get? b = some o):(b,o) ∈ pinsAt fp h:=List.mem_filterMap.mpr ⟨b,hb,by rw [e]; rfl⟩
theorem of_pinsAt {fp:List Addr} {h:Heap} {p:Addr × Obj} (hp:p ∈ pinsAt fp h):p.1 ∈ fp∧h.get? p.1 = some p.2:=by
  obtain ⟨b, hb, e⟩ := List.mem_filterMap.mp hp
  cases q : h.get? b with
  | none => rw [q] at e; cases e
  | some o =>
    rw [q] at e
    have e' : (b, o) = p := Option.some.inj e
    subst e'
    exact ⟨hb, q⟩
theorem Inv.pinned {pins:List (Addr × Obj)} {σ:St} {H:Hp} {s:Shared} {fp:List Addr} (I:Inv X pins σ H s) (hf:∀ b ∈ fp,FpOk X pins H b) (ho:∀ b ∈ fp,∃ o,s.heap.get? b = some o∧∀ v,o.data ≠ .cell v):Inv X (pins ++ pinsAt fp s.heap) σ H s :=
  I.pins_of fun p hp=>(List.mem_append.mp hp).elim (fun z=>I.pin p (List.mem_append_right _ z)) fun z=>by
    obtain ⟨hb, e⟩ := of_pinsAt z
    obtain ⟨f0, f1, f2, _⟩ := hf p.1 hb
    obtain ⟨o, e', d⟩ := ho p.1 hb
    rw [e] at e'; cases e'
    exact ⟨e, f0, f1, f2, d⟩
theorem Inv.unpinned {pins pl:List (Addr × Obj)} {σ:St} {H:Hp} {s:Shared} (I:Inv X (pins ++ pl) σ H s):Inv X pins σ H s:=I.pins_of fun p hp=>I.pin p (List.mem_append_right _ (List.mem_append_left _ hp))
theorem ps_for {iter:Expr} {body:List Stmt} {wi:TI} {g:TG} {tb:TS} {pos:Pos} (hp:PassesOwn (model X.prog X.w) X.A X.env X.xe) (hc:X.calm = true) (hi:PI X tg iter wi) (hg:PG X tg g) (hb:PSs X body tb)
    (hs:∀ x,foldedSetIterable iter X.env x = pure x:=by intro _; rfl):PS X (.For tg iter body [] pos) (tFor wi g tb):=by
  intro pins s σ H D I h
  refine wpAny_For (thn (hi pins s σ H _ I h) fun v s1 h1=>thn h1 fun itv s2 h2=>?_) hs
  obtain ⟨it,fp,tn,J,H2,e,I2,T,st2,f2,W,⟨m0,w0⟩,turn⟩:=h2
  subst e
  have stat:∀ {H':Hp},(∀ b ∈ fp,H' b = none)→∀ b ∈ fp,FpOk X pins H' b:=fun hn b hb=>⟨hn b hb,(f2 b hb).2⟩
  refine codeAny_forLoop_any (fun n s'=>∃ i σ' H',Inv X pins σ' H' s'∧tn i s'.heap∧(∀ b ∈ fp,H' b = none)∧W i n σ' H') ?_ m0 ⟨0,σ,H2,I2,st2,fun b hb=>(f2 b hb).1,w0⟩
  rintro n s3 ⟨i, σ3, H3, I3, st3, fr3, w3⟩
  rcases turn i n σ3 H3 w3 with ⟨stop,qn⟩ | ⟨go,N,hN,step⟩
  · refine wpAny_passesOwn hp (thn (T.done X rfl rfl rfl hc i pins s3 σ3 H3 X.xe I3 (stat fr3) st3 stop) fun r s4 ⟨hr,I4⟩=>?_)
    subst hr
    exact wpAny_execs_nil ⟨σ3, H3, I4, qn⟩
  · refine wpAny_passesOwn hp (thn (T.item X rfl rfl rfl hc i pins s3 σ3 H3 X.xe I3 (stat fr3) st3 go) fun r s4 ⟨u,hr,h4⟩=>?_)
    subst hr
    refine wpAny_passesOwn hp (thn h4 fun _ s5 ⟨x,H5,I5,r5,y5,st5,fr5⟩=>?_)
    have I5' := I5.pinned (stat fr5) (T.obj _ _ st5)
    refine wpAny_passesOwn hp (thn (hg _ s5 σ3 H5 x u _ I5' r5 (step x H5 y5)) fun _ s6 ⟨σ6,H6,I6,q6⟩=>?_)
    refine wpAny_passesOwn hp (thn (hb _ s6 σ6 H6 _ I6 q6) fun f s7 q7=>?_)
    have again:∀ {σ7:St} {H7:Hp},Inv X (pins ++ pinsAt fp s5.heap) σ7 H7 s7→N σ7 H7→∃ m,m < n∧∃ i σ' H',Inv X pins σ' H' s7∧tn i s7.heap∧(∀ b ∈ fp,H' b = none)∧W i m σ' H':=fun {σ7 H7} I7 n7=>by
      obtain ⟨m', hm, w7⟩ := hN σ7 H7 n7
      refine ⟨m',hm,i + 1,σ7,H7,I7.unpinned,T.keep _ _ _ st5 fun b hb o e=>(I7.pin (b,o) (List.mem_append_right _ (List.mem_append_right _ (mem_pinsAt hb e)))).1,fun b hb=>?_,w7⟩
      obtain ⟨o, e, d⟩ := T.obj _ _ st5 b hb
      exact (I7.pin (b,o) (List.mem_append_right _ (List.mem_append_right _ (mem_pinsAt hb e)))).2.1
    cases f with
    | next=>obtain ⟨σ7,H7,I7,n7⟩:=q7; exact again I7 n7
    | cont=>obtain ⟨σ7,H7,I7,n7⟩:=q7; exact again I7 n7
    | brk=>obtain ⟨σ7,H7,I7,q7⟩:=q7; exact ⟨σ7,H7,I7.unpinned,q7⟩
    | ret v=>obtain ⟨x7,σ7,H7,I7,r7,q7⟩:=q7; exact ⟨x7,σ7,H7,I7.unpinned,r7,q7⟩
end
theorem for_list {K:PySem.W.Frag} {a:Addr} {xs:List V} {g:TG} {tb:TS} {D:Ends} {σ:St} {H:Hp} (Pv:Nat→St→Hp→Prop) (h0:Pv 0 σ H) (hl:∀ i σ H,i ≤ xs.length→Pv i σ H→SqL K H a xs)
    (hs:∀ i x σ H,xs[i]? = some x→Pv i σ H→g x σ H fun σ2 H2=>tb { D with nx:=Pv (i + 1),ct:=Pv (i + 1),bk:=D.nx } σ2 H2) (hd:∀ σ H,Pv xs.length σ H→D.nx σ H) :
    ∃ W:Nat→Nat→St→Hp→Prop,(∃ m,W 0 m σ H)∧∀ i m σ H,W i m σ H →
      ((Itl K a).stop i H∧D.nx σ H) ∨ ((Itl K a).go i H∧∃ N:St→Hp→Prop,(∀ σ' H',N σ' H'→∃ m',m' < m∧W (i + 1) m' σ' H')∧∀ x H',(Itl K a).yld i H x H'→g x σ H' fun σ2 H2=>tb { D with nx:=N,ct:=N,bk:=D.nx } σ2 H2):=by
  refine ⟨fun i m σ H=>m = xs.length - i∧i ≤ xs.length∧Pv i σ H,⟨xs.length,by simp,Nat.zero_le _,h0⟩,?_⟩
  rintro i m σ H ⟨rfl, hi, p⟩
  have q := hl i σ H hi p
  by_cases hlt : i < xs.length
  · refine .inr ⟨⟨xs,xs[i],q,by simp [hlt]⟩,Pv (i + 1),fun σ' H' p'=>⟨xs.length - (i + 1),by omega,rfl,hlt,p'⟩,fun x H' y=>?_⟩
    obtain ⟨e, y⟩ := y
    subst e
    exact hs i x σ _ (y xs q) p
  · have e : i = xs.length := by omega
    subst e
    exact .inl ⟨⟨xs, q, Nat.le_refl _⟩, hd σ H p⟩
theorem for_range {lo:Int} {n:Nat} {g:TG} {tb:TS} {D:Ends} {σ:St} {H:Hp} (Pv:Nat→St→Hp→Prop) (h0:Pv 0 σ H)
    (hs:∀ i σ H,i < n→Pv i σ H→g (.int (lo + i)) σ H fun σ2 H2=>tb { D with nx:=Pv (i + 1),ct:=Pv (i + 1),bk:=D.nx } σ2 H2) (hd:∀ σ H,Pv n σ H→D.nx σ H) :
    ∃ W:Nat→Nat→St→Hp→Prop,(∃ m,W 0 m σ H)∧∀ i m σ H,W i m σ H →
      ((Itr lo n).stop i H∧D.nx σ H) ∨ ((Itr lo n).go i H∧∃ N:St→Hp→Prop,(∀ σ' H',N σ' H'→∃ m',m' < m∧W (i + 1) m' σ' H')∧∀ x H',(Itr lo n).yld i H x H'→g x σ H' fun σ2 H2=>tb { D with nx:=N,ct:=N,bk:=D.nx } σ2 H2):=by
  refine ⟨fun i m σ H=>m = n - i∧i ≤ n∧Pv i σ H,⟨n,by simp,Nat.zero_le _,h0⟩,?_⟩
  rintro i m σ H ⟨rfl, hi, p⟩
  by_cases hlt : i < n
  · refine .inr ⟨hlt,Pv (i + 1),fun σ' H' p'=>⟨n - (i + 1),by omega,rfl,hlt,p'⟩,fun x H' y=>?_⟩
    obtain ⟨e, y⟩ := y
    subst e y
    exact hs i σ _ hlt p
  · have e : i = n := by omega
    subst e
    exact .inl ⟨Nat.le_refl _, hd σ H p⟩
end L2
namespace L2
open PySem PySem.Spec PyProof.Rows
abbrev R2 := V → V → Hp → VK → Prop
def OpR (X:Cx) (f:Value→Value→Sem Value) (r:R2):Prop :=
  ∀ (pins:List (Addr × Obj)) (s:Shared) (σ:St) (H:Hp) (x y:V) (v u:Value) (Q:VK),Inv X pins σ H s→RelV x v→RelV y u→r x y H Q →
    wpAny (model X.prog X.w) X.A (f v u) (EP X pins σ Q) X.xe s
def UnR (X:Cx) (f:Value→Sem Value) (r:V→Hp→VK→Prop):Prop :=
  ∀ (pins:List (Addr × Obj)) (s:Shared) (σ:St) (H:Hp) (x:V) (v:Value) (Q:VK),Inv X pins σ H s→RelV x v→r x H Q →
    wpAny (model X.prog X.w) X.A (f v) (EP X pins σ Q) X.xe s
def CallR (X:Cx) (f:Value) (r:List V→Hp→VK→Prop):Prop :=
  ∀ (pins:List (Addr × Obj)) (s:Shared) (σ:St) (H:Hp) (xs:List V) (us:List Value) (Q:VK),Inv X pins σ H s→Vals xs us→r xs H Q →
    wpAny (model X.prog X.w) X.A (call f us) (EP X pins σ Q) X.xe s
def tOp (r:R2) (ta tb:TE):TE:=fun σ H Q=>ta σ H fun x H1=>tb σ H1 fun y H2=>r x y H2 Q
def tUn (r:V→Hp→VK→Prop) (ta:TE):TE:=fun σ H Q=>ta σ H fun x H1=>r x H1 Q
def rI (C:Int→Int→Prop) (g:Int→Int→V):R2:=fun x y H Q=>∃ i j,x = .int i∧y = .int j∧C i j∧Q (g i j) H
def rI0 (g:Int→Int→V):R2:=fun x y H Q=>∃ i j,x = .int i∧y = .int j∧Q (g i j) H
def rU (g:Int→V):V→Hp→VK→Prop:=fun x H Q=>∃ i,x = .int i∧Q (g i) H
section
variable {X : Cx} {a b c : Expr} {ta tb tc : TE} {pos : Pos}
theorem binT (ha:PE X a ta) (hb:PE X b tb) {pins:List (Addr × Obj)} {s:Shared} {σ:St} {H:Hp} {R:V→V→Hp→Prop} (I:Inv X pins σ H s)
    (h:ta σ H fun x H1=>tb σ H1 fun y H2=>R x y H2) {Q:Value→Shared→Prop} {f:Value→Value→Sem Value}
    (hf:∀ v u s2 x y H2,Inv X pins σ H2 s2→RelV x v→RelV y u→R x y H2→wpAny (model X.prog X.w) X.A (f v u) Q X.xe s2) :
    wpAny (model X.prog X.w) X.A (eval a X.env) (fun v s₁=>wpAny (model X.prog X.w) X.A (eval b X.env) (fun u s₂=>wpAny (model X.prog X.w) X.A (f v u) Q X.xe s₂) X.xe s₁) X.xe s:=by
  refine thn (ha pins s σ H _ I h) fun v s1 ⟨x,H1,I1,r1,q1⟩=>?_
  refine thn (hb pins s1 σ H1 _ I1 q1) fun u s2 ⟨y,H2,I2,r2,q2⟩=>?_
  exact hf v u s2 x y H2 I2 r1 r2 q2
theorem pe_op {op:Operator} {r:R2} (ho:OpR X (binaryOp op) r) (ha:PE X a ta) (hb:PE X b tb):PE X (.BinOp a op b pos) (tOp r ta tb):=by
  intro pins s σ H Q I h
  exact wpAny_BinOp (binT ha hb I h fun v u s2 x y H2 I2 rx ry q=>ho pins s2 σ H2 x y v u Q I2 rx ry q)
theorem pe_un {op:UnaryOp} {r:V→Hp→VK→Prop} (ho:UnR X (unaryOp op) r) (ha:PE X a ta):PE X (.UnaryOp op a pos) (tUn r ta):=by
  intro pins s σ H Q I h
  exact UnaryOp_ (thn (ha pins s σ H _ I h) fun v s1 ⟨x,H1,I1,r1,q1⟩=>ho pins s1 σ H1 x v Q I1 r1 q1)
theorem opI {f:Value→Value→Sem Value} {C:Int→Int→Prop} {g:Int→Int→Int}
    (rule:∀ (i j:Int) (t u:Tok) (s:Shared) (Q:Value→Shared→Prop) (E:Value→Shared→Prop),C i j→Q (.int (g i j) s.toks) { s with toks:=s.toks + 1 }→wpAny (model X.prog X.w) X.A (f (.int i t) (.int j u)) Q E s) :
    OpR X f (rI C fun i j => .int (g i j)) := by
  intro pins s σ H x y v u Q I rx ry h
  obtain ⟨i, j, rfl, rfl, hc, q⟩ := h
  obtain ⟨t, rfl⟩ := rx
  obtain ⟨t', rfl⟩ := ry
  exact rule i j t t' s _ _ hc ⟨.int (g i j),H,I.tok _,⟨_,rfl⟩,q⟩
theorem opI0 {f:Value→Value→Sem Value} {g:Int→Int→Int}
    (rule:∀ (i j:Int) (t u:Tok) (s:Shared) (Q:Value→Shared→Prop) (E:Value→Shared→Prop),Q (.int (g i j) s.toks) { s with toks:=s.toks + 1 }→wpAny (model X.prog X.w) X.A (f (.int i t) (.int j u)) Q E s) :
    OpR X f (rI0 fun i j => .int (g i j)) := by
  intro pins s σ H x y v u Q I rx ry h
  obtain ⟨i, j, rfl, rfl, q⟩ := h
  obtain ⟨t, rfl⟩ := rx
  obtain ⟨t', rfl⟩ := ry
  exact rule i j t t' s _ _ ⟨.int (g i j),H,I.tok _,⟨_,rfl⟩,q⟩
theorem opB0 {f:Value→Value→Sem Value} {g:Int→Int→Bool}
    (rule:∀ (i j:Int) (t u:Tok) (s:Shared) (Q:Value→Shared→Prop) (E:Value→Shared→Prop),Q (.bool (g i j)) s→wpAny (model X.prog X.w) X.A (f (.int i t) (.int j u)) Q E s) :
    OpR X f (rI0 fun i j => .bl (g i j)) := by
  intro pins s σ H x y v u Q I rx ry h
  obtain ⟨i, j, rfl, rfl, q⟩ := h
  obtain ⟨t, rfl⟩ := rx
  obtain ⟨t', rfl⟩ := ry
  exact rule i j t t' s _ _ ⟨.bl (g i j), H, I, rfl, q⟩
def CMul (i j:Int):Prop:=(-(2 ^ 64) < i∧i < 2 ^ 64) ∨ (-(2 ^ 64) < j∧j < 2 ^ 64)
theorem CMul.ok {i j:Int} (h:CMul i j):IntMulOk i j:=by
  rcases h with ⟨h1, h2⟩ | ⟨h1, h2⟩
  · exact .of_left (intBits_le_64 h1 h2)
  · exact .of_right (intBits_le_64 h1 h2)
theorem op_add:OpR X (binaryOp .Add) (rI0 fun i j=>.int (i + j)):=opI0 fun _ _ _ _ _ _ _ q=>add_int q
theorem op_sub:OpR X (binaryOp .Sub) (rI0 fun i j=>.int (i - j)):=opI0 fun _ _ _ _ _ _ _ q=>sub_int q
theorem op_mod:OpR X (binaryOp .Mod) (rI (fun _ j=>0 < j) fun i j=>.int (i % j)):=opI fun i j _ _ _ _ _ hc q=>by
  have h1 : (0 : Int) < j := hc
  exact mod_int' (by omega) (by rw [Int.fmod_eq_emod_of_nonneg i (by omega)]; exact q)
theorem op_modN:OpR X (binaryOp .Mod) (rI (fun _ j=>j ≠ 0) fun i j=>.int (i.fmod j)):=opI fun _ _ _ _ _ _ _ hc q=>mod_int' hc q
theorem unI {f : Value → Sem Value} {g : Int → Int}
    (rule:∀ (i:Int) (t:Tok) (s:Shared) (Q:Value→Shared→Prop) (E:Value→Shared→Prop),Q (.int (g i) s.toks) { s with toks:=s.toks + 1 }→wpAny (model X.prog X.w) X.A (f (.int i t)) Q E s) :
    UnR X f (rU fun i => .int (g i)) := by
  intro pins s σ H x v Q I rx h
  obtain ⟨i, rfl, q⟩ := h
  obtain ⟨t, rfl⟩ := rx
  exact rule i t s _ _ ⟨.int (g i), H, I.tok _, ⟨_, rfl⟩, q⟩
theorem un_neg:UnR X (unaryOp .USub) (rU fun i=>.int (-i)):=unI fun _ _ _ _ _ q=>neg_int q
end
def scal : V → V → Bool
  | .non,.non=>true | .non,.int _=>true | .int _,.non=>true | .non,.bl _=>true | .bl _,.non=>true | .non,.str _=>true | .str _,.non=>true
  | .int _,.int _=>true | .bl _,.bl _=>true | .str _,.str _=>true | .byt _,.byt _=>true
  | .int _,.str _=>true | .str _,.int _=>true | .bl _,.str _=>true | .str _,.bl _=>true
  | _, _ => false
def rEq:R2:=fun x y H Q=>scal x y = true∧Q (.bl (decide (x = y))) H
def rNe:R2:=fun x y H Q=>scal x y = true∧Q (.bl (!decide (x = y))) H
theorem dec_int {i j:Int}:decide (V.int i = V.int j) = (i == j):=by
  rw [Bool.eq_iff_iff]
  simp
theorem dec_bl {i j:Bool}:decide (V.bl i = V.bl j) = (i == j):=by
  rw [Bool.eq_iff_iff]
  simp
theorem dec_str {i j:Str}:decide (V.str i = V.str j) = (i == j):=by
  rw [Bool.eq_iff_iff]
  simp
theorem dec_byt {i j:Array UInt8}:decide (V.byt i = V.byt j) = (i.toList == j.toList):=by
  rw [Bool.eq_iff_iff]
  cases i
  cases j
  simp
section
variable {X : Cx} {a b c : Expr} {ta tb tc : TE} {pos : Pos}
theorem fin_bl {pins:List (Addr × Obj)} {σ:St} {H:Hp} {s:Shared} {Q:VK} {k k':Bool} (I:Inv X pins σ H s) (q:Q (.bl k) H) (e:k = k'):EP X pins σ Q (.bool k') s:=by
  subst e
  exact ⟨.bl k, H, I, rfl, q⟩
theorem op_eq : OpR X (compareOp .Eq) rEq := by
  intro pins s σ H x y v u Q I rx ry h
  obtain ⟨hs, q⟩ := h
  cases x with
  | non =>
    cases rx
    cases y with
    | non=>cases ry; exact PySem.EqNone.eq_none_none (fin_bl I q (by simp))
    | bl j=>cases ry; exact PySem.EqNone.eq_none_bool (fin_bl I q (by simp))
    | int j=>obtain ⟨t',rfl⟩:=ry; exact PySem.EqNone.eq_none_int (fin_bl I q (by simp))
    | str j=>obtain ⟨t',rfl⟩:=ry; exact PySem.EqNone.eq_none_str (fin_bl I q (by simp))
    | _=>exact absurd (show false = true from hs) Bool.false_ne_true
  | bl i =>
    cases rx
    cases y with
    | non=>cases ry; exact PySem.EqNone.eq_bool_none (fin_bl I q (by simp))
    | bl j => cases ry; exact eq_bool (fin_bl I q dec_bl)
    | str j=>obtain ⟨t',rfl⟩:=ry; exact PySem.EqMixed.eq_bool_str (fin_bl I q (by simp))
    | _=>exact absurd (show false = true from hs) Bool.false_ne_true
  | int i =>
    obtain ⟨t, rfl⟩ := rx
    cases y with
    | non=>cases ry; exact PySem.EqNone.eq_int_none (fin_bl I q (by simp))
    | int j=>obtain ⟨t',rfl⟩:=ry; exact eq_int (fin_bl I q dec_int)
    | str j=>obtain ⟨t',rfl⟩:=ry; exact PySem.EqMixed.eq_int_str (fin_bl I q (by simp))
    | _=>exact absurd (show false = true from hs) Bool.false_ne_true
  | str i =>
    obtain ⟨t, rfl⟩ := rx
    cases y with
    | non=>cases ry; exact PySem.EqNone.eq_str_none (fin_bl I q (by simp))
    | bl j=>cases ry; exact PySem.EqMixed.eq_str_bool (fin_bl I q (by simp))
    | int j=>obtain ⟨t',rfl⟩:=ry; exact PySem.EqMixed.eq_str_int (fin_bl I q (by simp))
    | str j=>obtain ⟨t',rfl⟩:=ry; exact eq_str (fin_bl I q dec_str)
    | _=>exact absurd (show false = true from hs) Bool.false_ne_true
  | byt i =>
    obtain ⟨t, rfl⟩ := rx
    cases y with
    | byt j=>obtain ⟨t',rfl⟩:=ry; exact PySem.W.eq_bytes (fin_bl I q dec_byt)
    | _=>exact absurd (show false = true from hs) Bool.false_ne_true
  | _=>cases y <;> exact absurd (show false = true from hs) Bool.false_ne_true
theorem op_ne : OpR X (compareOp .NotEq) rNe := by
  intro pins s σ H x y v u Q I rx ry h
  obtain ⟨hs, q⟩ := h
  cases x with
  | non =>
    cases rx
    cases y with
    | non=>cases ry; exact PySem.EqNone.ne_none_none (fin_bl I q (by simp))
    | bl j=>cases ry; exact PySem.EqNone.ne_none_bool (fin_bl I q (by simp))
    | int j=>obtain ⟨t',rfl⟩:=ry; exact PySem.EqNone.ne_none_int (fin_bl I q (by simp))
    | str j=>obtain ⟨t',rfl⟩:=ry; exact PySem.EqNone.ne_none_str (fin_bl I q (by simp))
    | _=>exact absurd (show false = true from hs) Bool.false_ne_true
  | bl i =>
    cases rx
    cases y with
    | non=>cases ry; exact PySem.EqNone.ne_bool_none (fin_bl I q (by simp))
    | bl j=>cases ry; exact ne_bool (fin_bl I q (congrArg not dec_bl))
    | str j=>obtain ⟨t',rfl⟩:=ry; exact PySem.EqMixed.ne_bool_str (fin_bl I q (by simp))
    | _=>exact absurd (show false = true from hs) Bool.false_ne_true
  | int i =>
    obtain ⟨t, rfl⟩ := rx
    cases y with
    | non=>cases ry; exact PySem.EqNone.ne_int_none (fin_bl I q (by simp))
    | int j=>obtain ⟨t',rfl⟩:=ry; exact ne_int (fin_bl I q (congrArg not dec_int))
    | str j=>obtain ⟨t',rfl⟩:=ry; exact PySem.EqMixed.ne_int_str (fin_bl I q (by simp))
    | _=>exact absurd (show false = true from hs) Bool.false_ne_true
  | str i =>
    obtain ⟨t, rfl⟩ := rx
    cases y with
    | non=>cases ry; exact PySem.EqNone.ne_str_none (fin_bl I q (by simp))
    | bl j=>cases ry; exact PySem.EqMixed.ne_str_bool (fin_bl I q (by simp))
    | int j=>obtain ⟨t',rfl⟩:=ry; exact PySem.EqMixed.ne_str_int (fin_bl I q (by simp))
    | str j=>obtain ⟨t',rfl⟩:=ry; exact ne_str (fin_bl I q (congrArg not dec_str))
    | _=>exact absurd (show false = true from hs) Bool.false_ne_true
  | byt i =>
    obtain ⟨t, rfl⟩ := rx
    cases y with
    | byt j=>obtain ⟨t',rfl⟩:=ry; exact PySem.W.ne_bytes (fin_bl I q (congrArg not dec_byt))
    | _=>exact absurd (show false = true from hs) Bool.false_ne_true
  | _=>cases y <;> exact absurd (show false = true from hs) Bool.false_ne_true
theorem op_lt:OpR X (compareOp .Lt) (rI0 fun i j=>.bl (decide (i < j))):=opB0 fun _ _ _ _ _ _ _ q=>lt_int q
theorem op_le:OpR X (compareOp .LtE) (rI0 fun i j=>.bl (decide (i ≤ j))):=opB0 fun _ _ _ _ _ _ _ q=>le_int q
theorem op_gt:OpR X (compareOp .Gt) (rI0 fun i j=>.bl (decide (j < i))):=opB0 fun _ _ _ _ _ _ _ q=>gt_int q
theorem op_ge:OpR X (compareOp .GtE) (rI0 fun i j=>.bl (decide (j ≤ i))):=opB0 fun _ _ _ _ _ _ _ q=>ge_int q
theorem nomark (b:Expr) {op:CmpOp} (h:op ≠ .In:=by decide) (h2:op ≠ .NotIn:=by decide):behindInMarks op b = false:=by
  have e1:(op == CmpOp.In) = false:=by cases op <;> first | rfl | exact absurd rfl h
  have e2:(op == CmpOp.NotIn) = false:=by cases op <;> first | rfl | exact absurd rfl h2
  cases b <;> simp [behindInMarks, e1, e2]
theorem pe_cmpR {op:CmpOp} {r:R2} (ho:OpR X (compareOp op) r) (ha:PE X a ta) (hb:PE X b tb) (hm:behindInMarks op b = false):PE X (.Compare a [op] [b] pos) (tOp r ta tb):=by
  intro pins s σ H Q I h
  exact wpAny_Compare1 (binT ha hb I h fun v u s2 x y H2 I2 rx ry q=>ho pins s2 σ H2 x y v u Q I2 rx ry q) hm
def tTest (t:TE):TT:=fun σ H Q=>t σ H fun x H'=>∃ k,x = .bl k∧Q k H'
theorem pt_cmpR {op:CmpOp} {r:R2} (ho:OpR X (compareOp op) r) (ha:PE X a ta) (hb:PE X b tb) (hm:behindInMarks op b = false):PT X (.Compare a [op] [b] pos) (tTest (tOp r ta tb)):=by
  intro pins s σ H Q I h
  refine wpAny_isTrue_Compare1 (thn (ha pins s σ H _ I h) fun v s1 ⟨x,H1,I1,r1,q1⟩=>thn (hb pins s1 σ H1 _ I1 q1) fun u s2 ⟨y,H2,I2,r2,q2⟩ =>
    thn (ho pins s2 σ H2 x y v u _ I2 r1 r2 q2) fun c s3 ⟨z,H3,I3,r3,k,e,q3⟩=>?_) hm
  subst e
  cases r3
  exact wpAny_truthy_bool ⟨H3, I3, q3⟩
theorem line63:(sizeLine:Nat) < 2 ^ 63:=by rw [sizeLine_eq]; decide
theorem vals1 {x:V} {us:List Value} (r:Vals [x] us):∃ u,us = [u]∧RelV x u:=by
  cases r with
  | cons r1 r2 => cases r2; exact ⟨_, rfl, r1⟩
theorem vals2 {x y:V} {us:List Value} (r:Vals [x,y] us):∃ u w',us = [u,w']∧RelV x u∧RelV y w':=by
  cases r with
  | cons r1 r2 =>
    cases r2 with
    | cons r3 r4 => cases r4; exact ⟨_, _, rfl, r1, r3⟩
theorem call_abs:CallR X (.builtin "abs") (fun xs H Q=>∃ i,xs = [.int i]∧Q (.int (if i < 0 then -i else i)) H):=by
  intro pins s σ H xs us Q I r h
  obtain ⟨i, rfl, q⟩ := h
  obtain ⟨u, rfl, t, rfl⟩ := vals1 r
  exact call_abs_int fun u tk=>⟨.int (if i < 0 then -i else i),H,I.tok _,⟨_,rfl⟩,q⟩
theorem call_min2 (hc:X.calm = true):CallR X (.builtin "min") (fun xs H Q=>∃ i j,xs = [.int i,.int j]∧Q (.int (if j < i then j else i)) H):=by
  intro pins s σ H xs us Q I r h
  obtain ⟨i, j, rfl, q⟩ := h
  obtain ⟨u, w', rfl, ⟨t, rfl⟩, ⟨t', rfl⟩⟩ := vals2 r
  refine min_two_ints (I.ok.hd hc) fun h' tk k=>⟨_,H,I.kept k,?_,q⟩
  by_cases hj : j < i
  · rw [if_pos hj, if_pos hj]; exact ⟨_, rfl⟩
  · rw [if_neg hj, if_neg hj]; exact ⟨_, rfl⟩
end
end L2
namespace L2
open PySem PySem.Spec PyProof.Rows
structure ObjM (h:Heap) (x dx C:Addr) (mA:Str→Option Value):Prop where
  obj : h.get? x = some (PySem.W.instObj C dx)
  ns : h.Ns1 dx mA
  ne : dx ≠ x
theorem lookIn_ns {h:Heap} {dx:Addr} {mA:Str→Option Value} (n:h.Ns1 dx mA):∃ od,h.get? dx = some od∧∀ name,PySem.W.lookIn name od = some (mA name):=by
  obtain ⟨o, es, ep, ho, hd, hk, _, hm⟩ := n
  refine ⟨o, ho, fun name => ?_⟩
  have e := hm name
  unfold nsFind findBy at e
  rw [← Array.find?_toList] at e
  unfold PySem.W.lookIn
  rw [hd]
  dsimp only
  split
  · rename_i y q
    rw [q] at e
    exact congrArg some e
  · rename_i q
    rw [q] at e
    have a : es.toList.any (·.refKey) = false := by
      rw [List.any_eq_false]
      intro y hy
      obtain ⟨z,t,hkey⟩:=hk y (Array.mem_toList_iff.mp hy)
      simp [DictEntry.refKey, hkey]
    have a':¬ es.toList.any (·.refKey) = true:=by rw [a]; exact Bool.false_ne_true
    rw [if_neg a']
    exact congrArg some e
theorem ObjM.look {h:Heap} {x dx C:Addr} {mA:Str→Option Value} (I:ObjM h x dx C mA):∃ od,PySem.W.InstAt h x (PySem.W.instObj C dx) C (some od)∧∀ name,PySem.W.lookIn name od = some (mA name) :=
  let ⟨od, ho, hl⟩ := lookIn_ns I.ns
  ⟨od, ⟨I.obj, rfl, rfl, ho⟩, hl⟩
section
variable {prog:Program} {w:World} {A:Around} {E:Value→Shared→Prop} {s:Shared} {K:PySem.W.Frag} {x dx C f:Addr} {mA:Str→Option Value} {name:Str} {v:Value}
end
theorem RelO.some_of {v:V} {o:Option Value} (r:RelO (some v) o):∃ u,o = some u∧RelV v u:=by
  cases o with
  | none => exact (show False from r).elim
  | some u => exact ⟨u, rfl, r⟩
theorem handed_of {v:V} {u:Value} (r:RelV v u):PySem.W.handedIn u = true:=by
  cases v with
  | non => cases (show u = Value.none from r); rfl
  | bl b => cases (show u = Value.bool b from r); rfl
  | int i=>obtain ⟨t,e⟩:=(show ∃ t,u = Value.int i t from r); cases e; rfl
  | str x=>obtain ⟨t,e⟩:=(show ∃ t,u = Value.str x t from r); cases e; rfl
  | byt b=>obtain ⟨t,e⟩:=(show ∃ t,u = Value.bytes b t from r); cases e; rfl
  | flt b=>obtain ⟨t,e⟩:=(show ∃ t,u = Value.float b t from r); cases e; rfl
  | ref a => cases (show u = Value.ref a from r); rfl
  | ty n => cases (show u = Value.type n from r); rfl
section
variable {P:Program} {w:World} {H H':Hp} {h h':Heap} {a C dx:Addr} {fs fs':List (Str × V)}
theorem ins_get (hok:HOk P w H h) (e:H a = some (.ins C dx fs)):∃ mA,ObjM h a dx C mA∧(∀ f,RelO (fs.lookup f) (mA f))∧PySem.Within mA (fs.map (·.1))∧fs.length ≤ 1000∧H dx = some (.own a):=by
  obtain ⟨d,z,ne,ob,mA,n,r,q⟩:=(show ObjOk P w H h a (.ins C dx fs) from hok a _ e)
  exact ⟨mA, ⟨ob, n, ne⟩, r, q, z, d⟩
end
structure Cls (K : PySem.W.Frag) (C : Addr) : Prop where
  pg : PySem.W.plainGet K C Str.empty = true
  hd : PySem.W.hasDictIn K C = true
  po : PySem.W.plainOver K C = true
  sa:PySem.W.findIn K (.ref C) "__setattr__" = some (some (.builtin "object.__setattr__"))
theorem Cls.get {K:PySem.W.Frag} {C:Addr} (c:Cls K C) (f:Str):PySem.W.plainGet K C f = true:=c.pg
def NoAttr (K:PySem.W.Frag) (C:Addr) (f:Str):Prop:=PySem.W.findIn K (.ref C) f = some none
structure Con (K:PySem.W.Frag) (C:Addr) (f:Str) (v:V) (u:Value):Prop where
  at_ : PySem.W.findIn K (.ref C) f = some (some u)
  rel : RelV v u
  get : PySem.W.specialIn K u "__get__" = some none
  cp : PySem.W.copiedNames.contains f = false
structure Meth (K:PySem.W.Frag) (C:Addr) (m:Str) (f:Addr):Prop where
  at_ : PySem.W.findIn K (.ref C) m = some (some (.ref f))
  fn : PySem.W.isFn K (.ref f) = true
  kp : PySem.W.keepIn K (.ref f) = true
section
variable {X:Cx} {pins:List (Addr × Obj)} {σ:St} {H:Hp} {s:Shared} {a C dx:Addr} {fs:List (Str × V)} {f:Str} {v:V} {A:Around} {E:Value→Shared→Prop}
theorem attr_of {prog:Program} {w:World} {env:Env} {e:Expr} {f:Str} {pos:Pos} {s:Shared} {Q:Value→Shared→Prop} (hb:attributeBase e f env (eval e env) = eval e env)
    (h:wpAny (model prog w) A (eval e env) (fun o s₁=>wpAny (model prog w) A (getAttr o f true) Q E s₁) E s):wpAny (model prog w) A (eval (.Attribute e f pos) env) Q E s :=
  Attribute_any_ h (by rw [arm_eval_Attribute, hb])
end
section
variable {X:Cx} {o e value:Expr} {f:Str} {pos pos' tpos:Pos} {ta tv:TE}
end
section
variable {X:Cx} {pins:List (Addr × Obj)} {σ:St} {H:Hp} {s:Shared} {A:Around} {E:Value→Shared→Prop} {Q:Value→Shared→Prop} {c:Value} {b:Bool}
inductive TyOf (K:PySem.W.Frag) (H:Hp):V→Value→Prop where
  | non : TyOf K H .non (.type "NoneType")
  | bl (x : Bool) : TyOf K H (.bl x) (.type "bool")
  | int (i : Int) : TyOf K H (.int i) (.type "int")
  | str (x : Str) : TyOf K H (.str x) (.type "str")
  | flt (x : UInt64) : TyOf K H (.flt x) (.type "float")
  | lst {a:Addr} {xs:List V} (e:H a = some (.lst xs)):TyOf K H (.ref a) (.type "list")
  | frz {a:Addr} {o:Obj} {xs:List V} (e:H a = some (.frz o (.lst xs))):TyOf K H (.ref a) (.type "list")
  | tup {a:Addr} {xs:List V} (e:H a = some (.tup xs)):TyOf K H (.ref a) (.type "tuple")
  | dK {a:Addr} {kvs:List (Key × V)} (e:H a = some (.dK kvs)):TyOf K H (.ref a) (.type "dict")
  | dT {a:Addr} {kvs:List (List Key × V)} (e:H a = some (.dT kvs)):TyOf K H (.ref a) (.type "dict")
  | ins {a C dx:Addr} {fs:List (Str × V)} (e:H a = some (.ins C dx fs)) (cl:Cls K C) (ha:PySem.W.findIn K (.ref C) "__class__" = some (some (.builtin "object.__class__")))
      (hn:PySem.W.specialIn K (.builtin "object.__class__") "__get__" = some (some (.builtin "getset_descriptor.__get__"))) (htk:PySem.W.takesIn K (.builtin "object.__class__") = some true)
      (hm:PySem.W.mroIn K C (.type "object") = some true):TyOf K H (.ref a) (.ref C)
theorem isinst_ok {x:V} {u t:Value} (I:Inv X pins σ H s) (rx:RelV x u) (ty:TyOf X.K H x t) (e:PySem.W.kitOne X.K t c = some b) (h:∀ tk,Q (.bool b) { s with toks:=tk }) :
    wpAny (model X.prog X.w) A (call (.builtin "isinstance") [u,c]) Q E s:=by
  cases ty with
  | non=>cases (show u = Value.none from rx); exact PySem.W.kia_one PySem.W.kitx_none I.kIn True.intro e (fun z=>nomatch z) h
  | bl y=>cases (show u = Value.bool y from rx); exact PySem.W.kia_one PySem.W.kitx_bool I.kIn True.intro e (fun z=>nomatch z) h
  | int i=>obtain ⟨t,q⟩:=(show ∃ t,u = Value.int i t from rx); cases q; exact PySem.W.kia_one PySem.W.kitx_int I.kIn True.intro e (fun z=>nomatch z) h
  | str y=>obtain ⟨t,q⟩:=(show ∃ t,u = Value.str y t from rx); cases q; exact PySem.W.kia_one PySem.W.kitx_str I.kIn True.intro e (fun z=>nomatch z) h
  | flt y=>obtain ⟨t,q⟩:=(show ∃ t,u = Value.float y t from rx); cases q; exact PySem.W.kia_one PySem.W.kitx_float I.kIn True.intro e (fun z=>nomatch z) h
  | @lst a xs ea =>
    cases (show u = Value.ref a from rx)
    obtain ⟨_,_,n,_,h1⟩:=(show ObjOk X.prog X.w H s.heap a (.lst xs) from I.hok a _ ea)
    exact PySem.W.kia_one PySem.W.kitx_list I.kIn ⟨_,h1,rfl⟩ e (fun z=>nomatch z) h
  | @frz a ob xs ea =>
    cases (show u = Value.ref a from rx)
    obtain ⟨_,_,_,n,_,h1⟩:=(show ObjOk X.prog X.w H s.heap a (.frz ob (.lst xs)) from I.hok a _ ea)
    exact PySem.W.kia_one PySem.W.kitx_list I.kIn ⟨_,h1,rfl⟩ e (fun z=>nomatch z) h
  | @tup a xs ea =>
    cases (show u = Value.ref a from rx)
    obtain ⟨_,_,_,p⟩:=(show ObjOk X.prog X.w H s.heap a (.tup xs) from I.hok a _ ea)
    obtain ⟨o, h1, h2, _⟩ := p
    exact PySem.W.kia_one PySem.W.kitx_tuple I.kIn ⟨o,h1,h2⟩ e (fun z=>nomatch z) h
  | @dK a kvs ea =>
    cases (show u = Value.ref a from rx)
    obtain ⟨_,_,vs,_,p⟩:=(show ObjOk X.prog X.w H s.heap a (.dK kvs) from I.hok a _ ea)
    obtain ⟨o, es, ep, h1, h2, _⟩ := p
    exact PySem.W.kia_one PySem.W.kitx_dict I.kIn ⟨o,h1,h2.1⟩ e (fun z=>nomatch z) h
  | @dT a kvs ea =>
    cases (show u = Value.ref a from rx)
    obtain ⟨_,_,xs,_,o,es,ep,h1,h2,_⟩:=(show ObjOk X.prog X.w H s.heap a (.dT kvs) from I.hok a _ ea)
    exact PySem.W.kia_one PySem.W.kitx_dict I.kIn ⟨o,h1,h2.1⟩ e (fun z=>nomatch z) h
  | @ins a C dx fs ea cl ha hn htk hm =>
    cases (show u = Value.ref a from rx)
    obtain ⟨mA, O, _⟩ := ins_get I.hok ea
    obtain ⟨od, J, _⟩ := O.look
    exact PySem.W.kia_one (PySem.W.kitx_own (cl.get _) cl.hd ha hn htk hm) I.kIn J e (fun z=>nomatch z) h
end
end L2
namespace L2
open PySem PySem.Spec PyProof.Rows
structure Room (k : Nat) (A : Around) : Prop where
  hd : A.handled = none
  dp : A.depth + 3 * k + 5 < recursionLimit
  un : A.units + 16 * k + 200 < cLine
theorem Room.mono {j k:Nat} {A:Around} (r:Room k A) (h:j ≤ k):Room j A:=⟨r.hd,by have:=r.dp; omega,by have:=r.un; omega⟩
theorem Room.deeper {k:Nat} {A:Around} (r:Room (k + 1) A) (env:Env):Room k (A.deeper env) :=
  ⟨r.hd,by have:=r.dp; show A.depth + 1 + 3 * k + 5 < _; omega,by have:=r.un; show A.units + 3 + 16 * k + 200 < _; omega⟩
theorem make_depth {A:Around} {C:Addr} {us:List Value} {kw:List (Str × Value)}:(A.under (.builtin "type.__call__" ⟨.ref C :: us,kw⟩)).depth = A.depth + 1:=by
  first | rfl | simp [Around.under,Code.weight,Code.isCreation,Code.isGuard,Code.isCaller,Code.frames,Code.isFrame,guardIds]
theorem make_units {A:Around} {C:Addr} {us:List Value} {kw:List (Str × Value)}:(A.under (.builtin "type.__call__" ⟨.ref C :: us,kw⟩)).units = A.units + 1:=by
  first | rfl | simp [Around.under,Code.cUnits,Code.frames,Code.isFrame]
theorem Room.make {k:Nat} {A:Around} (r:Room (k + 1) A) (C:Addr) (us:List Value) (kw:List (Str × Value)):Room k (A.under (.builtin "type.__call__" ⟨.ref C :: us,kw⟩)) :=
  ⟨r.hd,by have:=r.dp; rw [make_depth]; omega,by have:=r.un; rw [make_units]; omega⟩
theorem Room.depth {k:Nat} {A:Around} (r:Room k A):A.depth < recursionLimit:=by have:=r.dp; omega
theorem Room.units {k:Nat} {A:Around} (r:Room k A):A.units + 64 < cLine:=by have:=r.un; omega
def tNil : TA := fun _ H Q => Q [] H
def tCons (ta:TE) (tr:TA):TA:=fun σ H Q=>ta σ H fun x H1=>tr σ H1 fun xs H2=>Q (x :: xs) H2
section
variable {X:Cx} {e:Expr} {es:List Expr} {te:TE} {t:TA} {pos:Pos}
theorem pa_nil:PA X [] tNil:=fun _ _ _ _ H Q I h=>Calls.spliced_nil ⟨[],H,I,.nil,h⟩
theorem pa_cons (ha:PE X e te) (hr:PA X es t) (hs:starEach (e :: es) X.env = (false,eval e X.env) :: starEach es X.env:=by rfl):PA X (e :: es) (tCons te t):=by
  intro pos pins s σ H Q I h
  rw [hs]
  show wpAny _ _ (spliced ((false,eval e X.env) :: backTo pos (starEach es X.env))) _ _ s
  refine Calls.spliced_cons (thn (ha pins s σ H _ I h) fun u s1 ⟨x,H1,I1,r1,q1⟩=>?_)
  exact thn (hr pos pins s1 σ H1 _ I1 q1) fun us s2 ⟨xs,H2,I2,r2,q2⟩=>⟨x :: xs,H2,I2,.cons r1 r2,q2⟩
def tLst (t:TA):TE:=fun σ H Q=>t σ H fun xs H1=>xs.length ≤ sizeLine∧∀ p,H1 p = none→Q (.ref p) (upd H1 p (.lst xs))
theorem pe_lst (h:PA X es t):PE X (.List es pos) (tLst t):=by
  intro pins s σ H Q I hq
  refine wpAny_List_spliced (thn (h pos pins s σ H _ I hq) fun us s1 ⟨xs,H1,I1,r,z,q⟩=>⟨by rw [← r.length]; exact z,?_⟩)
  have hf:H1 s1.heap.objs.size = none:=I1.hok.fresh (Nat.le_refl _)
  refine ⟨.ref s1.heap.objs.size,upd H1 s1.heap.objs.size (.lst xs),I1.laid (t':=s1.toks) (fun b u e=>Heap.get?_push_of_some _ e) (Nat.le_refl _) ?_,rfl,q _ hf⟩
  exact ⟨z, us, 0, r, Heap.get?_push_size _ rfl⟩
end
abbrev Sp := List V → Hp → VK → XK → Prop
abbrev CXT:=List Env→Hp→Shared→XK→Value→Shared→Prop
structure Env0 (P:Program) (w:World) (K:PySem.W.Frag) (mg:Str→Option Value) (base:Heap) (A:Around) (outer:List Env) (s:Shared) (H:Hp):Prop where
  frames : A.frames = some outer
  mod : Mod K mg base
  bs:∀ b o,base.get? b = some o→s.heap.get? b = some o∧H b = none
  bsz : base.objs.size ≤ s.heap.objs.size
  funs : s.heap.FunFrames base outer
  frf : ∀ b ∈ frs outer, H b = none
  hok : HOk P w H s.heap
  bare : AllBare s.gens
def CE (outer:List Env) (P:Program) (w:World) (H:Hp) (s:Shared) (Q:VK) (u:Value) (s':Shared):Prop :=
  ∃ v H',s'.os = s.os∧AllBare s'.gens∧Un (frs outer) [] H H' s.heap s'.heap∧HOk P w H' s'.heap∧RelV v u∧Q v H'
def CR (CX:CXT) (outer:List Env) (P:Program) (w:World) (H:Hp) (s:Shared) (Q:VK) (E:XK) (r:Result) (s':Shared):Prop :=
  match r with
  | .ok (.ret u) => CE outer P w H s Q u s'
  | .ok _ => False
  | .error e => CX outer H s E e s'
structure FnOk (P:Program) (w:World) (K:PySem.W.Frag) (mg:Str→Option Value) (base:Heap) (CX:CXT) (k:Nat) (f:Addr) (fd:FuncData) (ps:List Str) (sp:Sp):Prop where
  len : ∀ vs H Q E, sp vs H Q E → vs.length = ps.length
  run:∀ (A:Around) (outer:List Env) (s:Shared) (H:Hp) (args:Args) (us:List Value) (vs:List V) (Q:VK) (E:XK),Room k A→Env0 P w K mg base A outer s H→BindsTo s fd args (ps.zip us)→Vals vs us→sp vs H Q E →
    codeAny (model P w) A (.call (.ref f) args) (CR CX outer P w H s Q E) s
theorem FnOk.mono {P:Program} {w:World} {K:PySem.W.Frag} {mg:Str→Option Value} {base:Heap} {CX:CXT} {j k:Nat} {f:Addr} {fd:FuncData} {ps:List Str} {sp:Sp} (F:FnOk P w K mg base CX j f fd ps sp) (h:j ≤ k) :
    FnOk P w K mg base CX k f fd ps sp:=⟨F.len,fun A outer s H args us vs Q E hr=>F.run A outer s H args us vs Q E (hr.mono h)⟩
theorem Env0.make {P:Program} {w:World} {K:PySem.W.Frag} {mg:Str→Option Value} {base:Heap} {A:Around} {outer:List Env} {s:Shared} {H:Hp} (e:Env0 P w K mg base A outer s H) (C:Addr) (us:List Value) (kw:List (Str × Value)) :
    Env0 P w K mg base (A.under (.builtin "type.__call__" ⟨.ref C :: us,kw⟩)) outer s H:=⟨by first | exact e.frames | (simpa [Around.under,Code.envs,Code.isFrame,pushEnvs] using e.frames),e.mod,e.bs,e.bsz,e.funs,e.frf,e.hok,e.bare⟩
section
variable {X:Cx} {pins:List (Addr × Obj)} {σ:St} {H:Hp} {s s':Shared}
theorem Inv.env0 (I:Inv X pins σ H s):Env0 X.prog X.w X.K X.mg X.base X.A X.stack s H :=
  ⟨I.ok.frames,I.ok.mod,I.bs,Nat.le_trans I.ok.bsz I.sz,I.stack,I.stkFree,I.hok,I.bare⟩
theorem Inv.after {Q:VK} {u:Value} (I:Inv X pins σ H s) (h:CE X.stack X.prog X.w H s Q u s'):EP X pins σ Q u s':=by
  obtain ⟨v, H', os, bare, un, hok, r, q⟩ := h
  obtain ⟨hh, g, d, t, os'⟩ := s'
  obtain rfl : os' = s.os := os
  exact ⟨v,H',I.call (h':=hh) (g':=g) (d':=d) (t':=t) (ch:=[]) un hok bare (fun b z=>absurd z (by simp)),r,q⟩
end
def tCall (sp:Sp) (dvs:List V) (E:XK) (t:TA):TE:=fun σ H Q=>t σ H fun vs H1=>sp (vs ++ dvs) H1 Q E
def Binds (K:PySem.W.Frag) (fd:FuncData) (ps:List Str) (ds:List Value):Prop :=
  ∀ (s:Shared) (us:List Value),K.In s.heap→(us ++ ds).length = ps.length→BindsTo s fd ⟨us,[]⟩ (ps.zip (us ++ ds))
theorem Binds.all {K:PySem.W.Frag} {fd:FuncData} {ps:List Str} (h:∀ us:List Value,us.length = ps.length→bindArgs fd ⟨us,[]⟩ = pure (ps.zip us)):Binds K fd ps []:=fun s us _ hl=>by
  rw [List.append_nil] at hl ⊢
  exact .of_eq (h us hl)
def Passes (CX:CXT) (X:Cx) (E:XK):Prop:=∀ (pins:List (Addr × Obj)) (σ:St) (H:Hp) (s:Shared) (e:Value) (s':Shared),Inv X pins σ H s→CX X.stack H s E e s'→X.xe e s'
section
variable {X:Cx} {CX:CXT} {k:Nat} {f C:Addr} {fd:FuncData} {ps:List Str} {sp:Sp} {dvs:List V} {ds:List Value} {E:XK} {x m:Str} {p pos apos:Pos} {e o:Expr} {es:List Expr} {ta:TE} {t:TA}
theorem run_fn {pins:List (Addr × Obj)} {σ:St} {H:Hp} {s:Shared} {Q:VK} {us:List Value} {vs:List V} (F:FnOk X.prog X.w X.K X.mg X.base CX k f fd ps sp) (hr:Room k X.A) (hb:Binds X.K fd ps ds) (hd:Vals dvs ds) (hx:Passes CX X E)
    (I:Inv X pins σ H s) (r:Vals vs us) (h:sp (vs ++ dvs) H Q E):wpAny (model X.prog X.w) X.A (call (.ref f) us) (EP X pins σ Q) X.xe s:=by
  have r2 : Vals (vs ++ dvs) (us ++ ds) := r.append hd
  have hl:(us ++ ds).length = ps.length:=by rw [← r2.length]; exact F.len _ _ _ _ h
  refine wpAny_call (codeAny_mono (F.run X.A X.stack s H ⟨us,[]⟩ (us ++ ds) (vs ++ dvs) Q E hr I.env0 (hb s us I.kIn hl) r2 h) fun r s' hq=>?_)
  cases r with
  | error e => exact hx pins σ H s e s' I hq
  | ok fl =>
    cases fl with
    | ret u => exact I.after hq
    | next => exact False.elim hq
    | brk => exact False.elim hq
    | cont => exact False.elim hq
theorem pe_call (F:FnOk X.prog X.w X.K X.mg X.base CX k f fd ps sp) (hr:Room k X.A) (hg:Gl X x) (hm:X.mg x = some (.ref f)) (hk:PySem.W.keepIn X.K (.ref f) = true) (hb:Binds X.K fd ps ds) (hd:Vals dvs ds) (hx:Passes CX X E)
    (ha:PA X (e :: es) t) (hdb:(x == ("__debug__":Str)) = false:=by decide) (he:starEach (e :: es) X.env = (false,eval e X.env) :: starEach es X.env:=by rfl) (hpl:(backTo pos (starEach es X.env)).any (·.1) = false:=by rfl) :
    PE X (.Call (.Name x p) (e :: es) [] pos) (tCall sp dvs E t):=by
  intro pins s σ H Q I h
  refine wpAny_Call_Name_kw (ld_glob I hg hm ?_ hdb)
  refine PySem.W.callWith_K (h₀:=X.base) I.ok.mod.kin hk (thn (ha pos pins s σ H _ I h) fun us s1 ⟨vs,H1,I1,r,q⟩=>⟨I1.kIn,?_⟩) he hpl
  exact run_fn F hr hb hd hx I1 r q
structure Mk (K : PySem.W.Frag) (C f : Addr) : Prop where
  makes : PySem.W.makesIn K C = true
  init:PySem.W.findIn K (.ref C) "__init__" = some (some (.ref f))
  fn : PySem.W.isFn K (.ref f) = true
  kp : PySem.W.keepIn K (.ref C) = true
end
section
variable {X:Cx} {CX:CXT} {k:Nat} {f C:Addr} {fd:FuncData} {ps ks:List Str} {sp:Sp} {E:XK} {x m:Str} {p pos apos kpos:Pos} {e o:Expr} {es:List Expr} {kws:List Keyword} {te ta:TE} {t tk:TA} {nm:Option Str}
structure KBinds (K:PySem.W.Frag) (fd:FuncData) (ps ks:List Str) (g:List Value→List Value→List Value) (gV:List V→List V→List V):Prop where
  to:∀ (s:Shared) (us ws:List Value),K.In s.heap→(g us ws).length = ps.length→BindsTo s fd ⟨us,ks.zip ws⟩ (ps.zip (g us ws))
  rel:∀ {vs:List V} {us:List Value} {zs:List V} {ws:List Value},Vals vs us→Vals zs ws→Vals (gV vs zs) (g us ws)
variable {g:List Value→List Value→List Value} {gV:List V→List V→List V}
end
structure FnScope (N P : List Str) (sc : Scope) : Prop where
  kind : sc.kind = .function
  co : sc.isCoroutine = false
  gen : sc.isGenerator = false
  nd : N.Nodup
  pre : N.take P.length = P
  par:∀ x ∈ P,sc.names.lookup x = some .local ∨ sc.names.lookup x = some .cell
  nofree : ∀ y ∈ sc.names, y.2 ≠ .free
theorem bindL_out {kindOf:Str→Option NameKind} {x:Str}:∀ {binds:List (Str × Value)} {m:Str→Option Value},(∀ v,(x,v) ∉ binds)→bindL kindOf binds m x = m x
  | [], _, _ => rfl
  | (n, v) :: r, m, h => by
    unfold bindL
    rw [bindL_out fun w hw=>h w (List.mem_cons_of_mem _ hw)]
    split
    · have:x ≠ n:=by rintro rfl; exact h v List.mem_cons_self
      simp [this]
    · rfl
theorem bindC_out {kindOf:Str→Option NameKind} {x:Str}:∀ {binds:List (Str × Value)} {m:Str→Option Value},(∀ v,(x,v) ∉ binds)→bindC kindOf binds m x = m x
  | [], _, _ => rfl
  | (n, v) :: r, m, h => by
    unfold bindC
    rw [bindC_out fun w hw=>h w (List.mem_cons_of_mem _ hw)]
    split
    · rfl
    · have:x ≠ n:=by rintro rfl; exact h v List.mem_cons_self
      simp [this]
theorem bindL_get {kindOf:Str→Option NameKind} {x:Str} {v:Value}:∀ {P:List Str} {vs:List Value} {i:Nat} {m:Str→Option Value},P.Nodup→P[i]? = some x→vs[i]? = some v→kindOf x = some .local →
    bindL kindOf (P.zip vs) m x = some v
  | [], _, _, _, _, h, _, _ => by simp at h
  | _ :: _, [], _, _, _, _, h, _ => by simp at h
  | p :: P, w :: vs, 0, m, nd, h1, h2, hk => by
    simp at h1 h2; subst h1; subst h2
    show bindL kindOf ((p, w) :: P.zip vs) m p = _
    unfold bindL
    rw [bindL_out fun v hv=>(List.nodup_cons.mp nd).1 (List.of_mem_zip hv).1,if_pos hk]
    simp
  | p :: P, w :: vs, i + 1, m, nd, h1, h2, hk => by
    show bindL kindOf ((p, w) :: P.zip vs) m x = _
    unfold bindL
    exact bindL_get (i:=i) (List.nodup_cons.mp nd).2 (by simpa using h1) (by simpa using h2) hk
theorem bindC_get {kindOf:Str→Option NameKind} {x:Str} {v:Value}:∀ {P:List Str} {vs:List Value} {i:Nat} {m:Str→Option Value},P.Nodup→P[i]? = some x→vs[i]? = some v→kindOf x ≠ some .local →
    bindC kindOf (P.zip vs) m x = some v
  | [], _, _, _, _, h, _, _ => by simp at h
  | _ :: _, [], _, _, _, _, h, _ => by simp at h
  | p :: P, w :: vs, 0, m, nd, h1, h2, hk => by
    simp at h1 h2; subst h1; subst h2
    show bindC kindOf ((p, w) :: P.zip vs) m p = _
    unfold bindC
    rw [bindC_out fun v hv=>(List.nodup_cons.mp nd).1 (List.of_mem_zip hv).1,if_neg hk]
    simp
  | p :: P, w :: vs, i + 1, m, nd, h1, h2, hk => by
    show bindC kindOf ((p, w) :: P.zip vs) m x = _
    unfold bindC
    exact bindC_get (i:=i) (List.nodup_cons.mp nd).2 (by simpa using h1) (by simpa using h2) hk
def start (N:List Str) (vs:List V):St:=vs.map some ++ List.replicate (N.length - vs.length) none
def cxOf (CX:CXT) (P:Program) (w:World) (K:PySem.W.Frag) (mg:Str→Option Value) (base:Heap) (N:List Str) (qual:Str) (scope:Scope) (f:Addr) (cd:Value) (A:Around) (outer:List Env) (s:Shared) (H:Hp) (E:XK):Cx where
  prog := P
  w := w
  K := K
  mg := mg
  base := base
  A := A.deeper (envOfC qual scope s.heap.objs.size f cd)
  N := N
  s₀ := s
  H₀ := H
  env := envOfC qual scope s.heap.objs.size f cd
  outer := outer
  stack := envOfC qual scope s.heap.objs.size f cd :: outer
  ex := []
  calm := true
  fn := fun _ => true
  pn := []
  xe:=fun e s'=>wpAny (model P w) (A.deeper (envOfC qual scope s.heap.objs.size f cd)) (leaving (envOfC qual scope s.heap.objs.size f cd) e) (fun _ s''=>CX outer H s E e s'') (fun e' s''=>CX outer H s E e' s'') s'
theorem cell_has {sc:Scope} {n:Nat} {x:Str} (h:sc.names.lookup x = some .cell):∃ c,(cellsFrom n sc.names []).lookup x = some c:=by
  have q := PySem.W.cellsFrom_some sc.names n [] (.inl h)
  exact Option.isSome_iff_exists.mp q
theorem inv_start {CX:CXT} {P:Program} {w:World} {K:PySem.W.Frag} {mg:Str→Option Value} {base:Heap} {N ps:List Str} {qual:Str} {scope:Scope} {f:Addr} {cd:Value} {A:Around} {outer:List Env} {s s1:Shared} {H:Hp} {E:XK} {us:List Value} {vs:List V}
    (S:FnScope N ps scope) (hd:A.handled = none) (e0:Env0 P w K mg base A outer s H) (hl:vs.length = ps.length) (r:Vals vs us)
    (x:InCallC s s.heap.objs.size (bindL (envOfC qual scope s.heap.objs.size f cd).kindOf (ps.zip us) fun _=>none) (cellsFrom (s.heap.objs.size + 1) scope.names []) (bindC (envOfC qual scope s.heap.objs.size f cd).kindOf (ps.zip us) fun _=>none) s1) :
    Inv (cxOf CX P w K mg base N qual scope f cd A outer s H E) [] (start N vs) H s1:=by
  have hpl:ps.length ≤ N.length:=by have:=congrArg List.length S.pre; rw [List.length_take] at this; omega
  obtain ⟨h1, tk, rfl, hk⟩ := x.done
  have noA:∀ b:Addr,b ∉ (cxOf CX P w K mg base N qual scope f cd A outer s H E).ex:=fun b z=>absurd (show b ∈ ([]:List Addr) from z) (by simp)
  refine ⟨⟨e0.mod,S.kind,rfl,rfl,Nat.le_refl _,fun y z c h1 h2=>?_,fun y hy=>?_,fun y c _ h=>?_,fun _=>hd,Around.frames_deeper e0.frames,.inr ⟨rfl,rfl⟩,fun b z=>absurd z (noA b),e0.bs,e0.bsz,fun b _ _=>noA b,fun b z=>absurd z (noA b),e0.funs,e0.frf⟩,
    rfl,e0.bare,Un.kept hk,⟨_,x.toInCall.ns,fun i y v h1 h2 h3=>?_⟩,fun y c h=>⟨_,x.cell y c h⟩,e0.hok.fresh (Nat.le_refl _),fun y c h=>?_,fun p hp=>absurd (show p ∈ ([]:List (Addr × Obj)) from hp) (by simp),e0.hok.kept hk,?_⟩
  · exact name_of_addr x.apart (PySem.mem_of_lookup h1) (PySem.mem_of_lookup h2)
  · have hy:scope.names.lookup y = some .cell ∨ scope.names.lookup y = some .free:=hy
    rcases hy with hy | hy
    · exact cell_has hy
    · exact absurd rfl (S.nofree _ (PySem.mem_of_lookup hy))
  · exact Nat.le_of_lt (x.above y c (PySem.mem_of_lookup h))
  · have hi : i < vs.length := by
      unfold start at h2
      by_cases hi : i < vs.length
      · exact hi
      · rw [List.getElem?_append_right (by simpa using hi)] at h2
        rw [List.getElem?_replicate] at h2
        split at h2 <;> cases h2
    have ha : vs[i]? = some v := by
      unfold start at h2
      rw [List.getElem?_append_left (by simpa using hi),List.getElem?_map] at h2
      cases e : vs[i]? with
      | none => rw [e] at h2; cases h2
      | some a => rw [e] at h2; cases h2; rfl
    obtain ⟨u, hu, rv⟩ := r.get ha
    have hp : ps[i]? = some y := by
      rw [← S.pre,List.getElem?_take_of_lt (by omega)]; exact h1
    have ndP:ps.Nodup:=by rw [← S.pre]; exact S.nd.sublist (List.take_sublist _ _)
    refine ⟨u, rv, ?_⟩
    rcases S.par y (List.mem_of_getElem? hp) with k | k
    · exact .inl ⟨k, bindL_get ndP hp hu k⟩
    · obtain ⟨c,e⟩:=cell_has (n:=s.heap.objs.size + 1) k
      refine .inr ⟨.inl k, c, e, ?_⟩
      have q := x.cell y c e
      rw [bindC_get ndP hp hu (by show scope.names.lookup y ≠ _; rw [k]; decide)] at q
      exact q
  · exact e0.hok.fresh (Nat.le_of_lt (x.above y c (PySem.mem_of_lookup h)))
  · unfold start
    show _ = N.length
    rw [List.length_append,List.length_map,List.length_replicate]
    omega
theorem fn_of {CX:CXT} {P:Program} {w:World} {K:PySem.W.Frag} {mg:Str→Option Value} {base:Heap} {k:Nat} {f:Addr} {name qual:Str} {params:Arguments} {body:List Stmt} {scope:Scope} {dV kV doc pm cdv ct oc:Value} {an od:Option Addr}
    {osl:Array (Option Value)} {N ps:List Str} {sp:Sp} (lk:K.lookup f = some ⟨oc,od,.func (PySem.W.fnOf name qual params body scope dV kV doc pm an cdv ct),osl⟩) (hcd:PySem.W.codeIn K cdv qual = true) (S:FnScope N ps scope)
    (len : ∀ vs H Q E, sp vs H Q E → vs.length = ps.length)
    (hbody:∀ (A:Around) (outer:List Env) (s:Shared) (H:Hp) (vs:List V) (Q:VK) (E:XK),Room k (A.deeper (envOfC qual scope s.heap.objs.size f cdv))→sp vs H Q E →
      ∃ t,PSs (cxOf CX P w K mg base N qual scope f cdv A outer s H E) body t∧t { nx:=fun _ H'=>Q .non H',rt:=Q } (start N vs) H) :
    FnOk P w K mg base CX (k + 1) f (PySem.W.fnOf name qual params body scope dV kV doc pm an cdv ct) ps sp:=by
  refine ⟨len,fun A outer s H args us vs Q E hr e0 hb r hsp=>?_⟩
  have hl := len _ _ _ _ hsp
  have KX:K.In s.heap:=e0.mod.kin.keeps fun b o e=>(e0.bs b o e).1
  have lim:s.heap.NoLimit:=e0.mod.nolimit.keeps fun b o e=>(e0.bs b o e).1
  have hkind:∀ y ∈ ps.zip us,scope.names.lookup y.1 = some .local ∨ (scope.names.lookup y.1 = some .cell∧((cellsFrom (s.heap.objs.size + 1) scope.names []).lookup y.1).isSome = true):=fun ⟨n,v⟩ hy=>by
    rcases S.par n (List.of_mem_zip hy).1 with q | q
    · exact .inl q
    · exact .inr ⟨q, PySem.W.cellsFrom_some _ _ _ (.inl q)⟩
  refine codeAny_call_function hr.depth (KX _ _ lk) rfl S.co S.gen rfl (PySem.W.codeRec_of KX hcd) (hb _ _ _ _ ?_)
  refine wpAny_newFunctionEnv_cells S.kind hkind fun env he s1 x=>?_
  subst he
  refine ⟨lim.keeps x.toInCall.keep, codeAny_func ?_⟩
  obtain ⟨t,ht,hq⟩:=hbody A outer s H vs Q E (hr.deeper _) hsp
  have I:Inv (cxOf CX P w K mg base N qual scope f cdv A outer s H E) [] (start N vs) H s1:=inv_start S hr.hd e0 hl r x
  refine wpAny_mono (ht [] s1 (start N vs) H _ I hq) (fun fl s' hs=>?_) fun e s' hs=>hs
  have fin:∀ {σ':St} {H':Hp} {v:V} {u:Value},Inv (cxOf CX P w K mg base N qual scope f cdv A outer s H E) [] σ' H' s'→RelV v u→Q v H'→CE outer P w H s Q u s' :=
    fun {σ' H' v u} J rv q=>⟨v,H',J.os,J.bare,J.base,J.hok,rv,q⟩
  cases fl with
  | ret u =>
    obtain ⟨v, σ', H', J, rv, q⟩ := hs
    exact fin J rv q
  | next =>
    obtain ⟨σ', H', J, q⟩ := hs
    exact fin (v := V.non) (u := Value.none) J rfl q
  | brk =>
    obtain ⟨_, _, _, q⟩ := hs
    exact False.elim q
  | cont =>
    obtain ⟨_, _, _, q⟩ := hs
    exact False.elim q
end L2
namespace L2
open PySem PySem.Spec PyProof.Rows
section
variable {X:Cx} {x:Str} {p pos:Pos} {e:Expr} {es:List Expr} {t:TA} {id T:String} {r:List V→Hp→VK→Prop}
def tCB (r:List V→Hp→VK→Prop) (t:TA):TE:=fun σ H Q=>t σ H fun vs H1=>r vs H1 Q
theorem pe_callB (hc:CallR X (.builtin id) r) (hg:Gl X x) (hm:X.mg x = none) (hv:bootBuiltins x = some (.builtin id)) (ha:PA X (e :: es) t) (hn:x ≠ "__name__":=by decide) (hdb:(x == ("__debug__":Str)) = false:=by decide)
    (he:starEach (e :: es) X.env = (false,eval e X.env) :: starEach es X.env:=by rfl) (hpl:(backTo pos (starEach es X.env)).any (·.1) = false:=by rfl):PE X (.Call (.Name x p) (e :: es) [] pos) (tCB r t):=by
  intro pins s σ H Q I h
  refine wpAny_Call_Name_kw (ld_blt I hg hm hv ?_ hn hdb)
  exact PyProof.Rows.callWith_builtin1 (thn (ha pos pins s σ H _ I h) fun us s1 ⟨vs,H1,I1,r1,q1⟩=>hc pins s1 σ H1 vs us Q I1 r1 q1) he hpl
theorem pe_callTy (hc:CallR X (.type T) r) (hg:Gl X x) (hm:X.mg x = none) (hv:bootBuiltins x = some (.type T)) (ha:PA X (e :: es) t) (hn:x ≠ "__name__":=by decide) (hdb:(x == ("__debug__":Str)) = false:=by decide)
    (he:starEach (e :: es) X.env = (false,eval e X.env) :: starEach es X.env:=by rfl) (hpl:(backTo pos (starEach es X.env)).any (·.1) = false:=by rfl):PE X (.Call (.Name x p) (e :: es) [] pos) (tCB r t):=by
  intro pins s σ H Q I h
  refine wpAny_Call_Name_kw (ld_blt I hg hm hv ?_ hn hdb)
  exact PyProof.Rows.callWith_type1 (thn (ha pos pins s σ H _ I h) fun us s1 ⟨vs,H1,I1,r1,q1⟩=>hc pins s1 σ H1 vs us Q I1 r1 q1) he hpl
end
end L2
namespace HT
open PySem PyProof.Rows
section
open PySem.SeqAt
open PySem.AutoSeq1 (wpAny_loadPart')
open PySem.MeetsSeq PySem.MeetsSeq2 PySem.MeetsSeq3
end
section
variable {prog:Program} {w:World} {A:Around} {E:Value→Shared→Prop} {s:Shared}
def sIx (n d : Nat) : Option Int → Nat
  | none => d
  | some v=>if v < 0 then (v + (n:Int)).toNat else min v.toNat n
theorem sIx_le (n d:Nat) (hd:d ≤ n) (o:Option Int):sIx n d o ≤ n:=by
  cases o with
  | none => exact hd
  | some v =>
    show (if v < 0 then (v + (n:Int)).toNat else min v.toNat n) ≤ n
    by_cases hv : v < 0
    · rw [if_pos hv]; omega
    · rw [if_neg hv]; exact Nat.min_le_right _ _
theorem clip_eq (v:Int) (n d:Nat):(if v < 0 then max (v + (n:Int)) 0 else min v (n:Int)) = ((sIx n d (some v):Nat):Int):=by
  show (if v < 0 then max (v + (n:Int)) 0 else min v (n:Int)) = (((if v < 0 then (v + (n:Int)).toNat else min v.toNat n):Nat):Int)
  by_cases hv : v < 0
  · simp only [if_pos hv]; omega
  · simp only [if_neg hv]; omega
theorem adjust_gen (lo hi:Option Int) (n:Nat):Builtin.Slice.sliceAdjust lo hi 1 (n:Int) = (((sIx n 0 lo:Nat):Int),((sIx n n hi:Nat):Int)):=by
  have h1 : ¬ ((1 : Int) < 0) := by omega
  unfold Builtin.Slice.sliceAdjust
  simp only [h1, if_false]
  refine Prod.ext ?_ ?_
  · cases lo with
    | none => rfl
    | some v => exact clip_eq v n 0
  · cases hi with
    | none => rfl
    | some v => exact clip_eq v n n
theorem places_gen (i j:Nat):Builtin.Slice.slicePlaces (i:Int) (j:Int) 1 = j - i:=by
  unfold Builtin.Slice.slicePlaces
  have h1 : (1 : Int) > 0 := by omega
  simp only [h1, if_true, Int.ediv_one]
  split <;> omega
theorem slicePart_ {v:Value} {o:Option Int} {Q:Option Int→Shared→Prop} (p:IsPart v o) (h:Q o s):wpAny (model prog w) A (Builtin.Slice.slicePartIndex v) Q E s:=by
  cases p with
  | none => exact slicePart_none h
  | int i t => exact slicePart_int h
theorem sliceApplied_gen {sl:Addr} {vl vu:Value} {lo hi:Option Int} {n:Nat} {Q:Int × Int × Nat→Shared→Prop} (hs:s.heap.IsSliceOf sl vl vu .none) (pl:IsPart vl lo) (pu:IsPart vu hi)
    (h:Q (((sIx n 0 lo:Nat):Int),1,sIx n n hi - sIx n 0 lo) s):wpAny (model prog w) A (Builtin.Slice.sliceApplied (.ref sl) (pure (n:Int))) Q E s:=by
  obtain ⟨os, hos, hcs, hds⟩ := id hs
  unfold Builtin.Slice.sliceApplied Builtin.Slice.sliceFields
  refine wpAny_bind (wpAny_bind (wpAny_field hos hds (x:=vl) rfl (wpAny_bind (wpAny_field hos hds (x:=vu) rfl (wpAny_bind (wpAny_field hos hds (x:=.none) rfl (wpAny_pure ?_)))))))
  refine wpAny_bind (slicePart_none ?_)
  show wpAny _ _ (if ((1:Int) == 0) = true then _ else _) _ _ s
  rw [if_neg (by decide)]
  refine wpAny_bind (slicePart_ pl (wpAny_bind (slicePart_ pu (wpAny_bind (wpAny_pure ?_)))))
  show wpAny _ _ (match Builtin.Slice.sliceAdjust lo hi 1 (n:Int) with | (lo,hi)=>pure (lo,(1:Int),Builtin.Slice.slicePlaces lo hi 1)) _ _ s
  rw [adjust_gen lo hi n]
  show wpAny _ _ (pure (((sIx n 0 lo:Nat):Int),(1:Int),Builtin.Slice.slicePlaces ((sIx n 0 lo:Nat):Int) ((sIx n n hi:Nat):Int) 1)) _ _ s
  rw [places_gen]
  exact wpAny_pure h
theorem pick_gen (xs:Array Value) (i k:Nat):((List.range k).filterMap fun (m:Nat)=>xs[((i:Int) + (m:Int) * 1).toNat]?).toArray = ((xs.toList.drop i).take k).toArray:=by
  have e:(fun (m:Nat)=>xs[((i:Int) + (m:Int) * 1).toNat]?) = fun m=>xs[i + m]?:=by
    funext m
    have:((i:Int) + (m:Int) * 1).toNat = i + m:=by omega
    rw [this]
  rw [e]
  have := pick_run xs i k
  rw [List.filterMap_map] at this
  have e2:((fun x=>xs[x]?) ∘ fun x=>i + x) = fun m=>xs[i + m]?:=rfl
  rw [e2] at this
  rw [this]
theorem getItem_tuple_cut {t sl:Addr} {items:Array Value} {vl vu:Value} {lo hi:Option Int} {Q:Value→Shared→Prop} (ht:IsTup s.heap t items) (hs:s.heap.IsSliceOf sl vl vu .none) (pl:IsPart vl lo) (pu:IsPart vu hi)
    (hw:¬ (sIx items.size 0 lo = 0∧sIx items.size items.size hi = items.size))
    (h:Q (.ref s.heap.objs.size) { s with heap:=s.heap.push { cls:=.type "tuple",data:=.seq ((items.toList.drop (sIx items.size 0 lo)).take (sIx items.size items.size hi - sIx items.size 0 lo)).toArray } })
    (hsz:items.size ≤ sizeLine):wpAny (model prog w) A (getItem (.ref t) (.ref sl)) Q E s:=by
  have htake:sizeOk (.seq ((items.toList.drop (sIx items.size 0 lo)).take (sIx items.size items.size hi - sIx items.size 0 lo)).toArray):=by
    show ((items.toList.drop (sIx items.size 0 lo)).take (sIx items.size items.size hi - sIx items.size 0 lo)).toArray.size ≤ sizeLine
    rw [List.size_toArray,List.length_take,List.length_drop,Array.length_toList]
    omega
  have hj:sIx items.size items.size hi ≤ items.size:=sIx_le _ _ (Nat.le_refl _) hi
  obtain ⟨os, hos, hcs, hds⟩ := id hs
  have hTs : s.TypeIs (.ref sl) "slice" := ⟨os, hos, hcs⟩
  unfold getItem
  try with_reducible refine wpAny_holding ?_
  first | refine wpAny_bind (wpAny_pure ?_) | skip
  refine wpAny_bind (wpAny_sequenceKey ht.typeIs (by decide) ?_)
  refine wpAny_bind (wpAny_callSpecial?_slot (name:=Str.ofString "__getitem__") ht.typeIs PyProof.Rows.slot_tuple_getitem
    (wpAny_call_entry PyProof.Rows.slot_tuple_getitem ht.typeIs entry_tuple_getitem ?_ (args_tuple_getitem _ _)))
  show wpAny _ _ (Builtin.Tuple.tupleItemsOf (.ref t) >>= _) _ _ s
  refine wpAny_bind (tupleItemsOf_ ht ?_)
  refine wpAny_bind (wpAny_typeOf hTs ?_)
  rw [if_pos (by decide)]
  refine wpAny_bind (sliceApplied_gen hs pl pu ?_)
  have hno:¬ ((((sIx items.size 0 lo:Nat):Int) == 0 && (1:Int) == 1 && (sIx items.size items.size hi - sIx items.size 0 lo) == items.size) = true):=by
    intro q
    rw [Bool.and_eq_true, Bool.and_eq_true] at q
    have q1:((sIx items.size 0 lo:Nat):Int) = 0:=eq_of_beq q.1.1
    have q2:sIx items.size items.size hi - sIx items.size 0 lo = items.size:=eq_of_beq q.2
    exact hw ⟨by omega, by omega⟩
  show wpAny _ _ (if (((sIx items.size 0 lo:Nat):Int) == 0 && (1:Int) == 1 && (sIx items.size items.size hi - sIx items.size 0 lo) == items.size) = true then _ else _) _ _ s
  rw [if_neg hno, pick_gen]
  first
    | exact wpAny_bind (m:=Builtin.Tuple.tupleExact _) (wpAny_newObj_type (wpAny_pure ⟨_,rfl,wpAny_pure h⟩) htake)
    | exact wpAny_bind (m:=Builtin.Tuple.tupleExact _) (wpAny_newObj_type (wpAny_bind (wpAny_pure (wpAny_pure ⟨_,rfl,wpAny_pure h⟩))) htake)
    | exact wpAny_bind (wpAny_bind (m:=Builtin.Tuple.tupleExact _) (wpAny_newObj_type (wpAny_pure (wpAny_pure ⟨_,rfl,wpAny_pure h⟩)) htake))
    | exact wpAny_bind (wpAny_bind (m:=Builtin.Tuple.tupleExact _) (wpAny_newObj_type (wpAny_pure ⟨_,rfl,wpAny_pure h⟩) htake))
end
end HT
namespace L2
open PySem PySem.Spec PyProof.Rows
abbrev TO := St → Hp → (Option Int → Hp → Prop) → Prop
def PO (X : Cx) (e : Option Expr) (t : TO) : Prop :=
  ∀ (pins:List (Addr × Obj)) (s:Shared) (σ:St) (H:Hp) (Q:Option Int→Hp→Prop),Inv X pins σ H s→t σ H Q →
    wpAny (model X.prog X.w) X.A (evalPart e X.env) (fun u s'=>∃ o H',Inv X pins σ H' s'∧IsPart u o∧Q o H') X.xe s
def tNoPart : TO := fun _ H Q => Q none H
def tPart (t:TE):TO:=fun σ H Q=>t σ H fun x H1=>∃ i,x = .int i∧Q (some i) H1
section
variable {X:Cx} {e:Expr} {te:TE} {lo hi:Option Expr} {tl th:TO} {pos p2:Pos}
theorem po_none : PO X none tNoPart := by
  intro pins s σ H Q I h
  rw [evalPart_none]
  exact wpAny_pure ⟨none, H, I, .none, h⟩
theorem po_some (h:PE X e te):PO X (some e) (tPart te):=by
  intro pins s σ H Q I hw
  rw [evalPart_some]
  refine thn (h pins s σ H _ I hw) fun u s1 ⟨x,H1,I1,r1,q1⟩=>?_
  obtain ⟨i, rfl, q⟩ := q1
  obtain ⟨t, rfl⟩ := r1
  exact ⟨some i, H1, I1, .int i t, q⟩
def SlR (X:Cx) (r:V→Option Int→Option Int→Hp→VK→Prop):Prop :=
  ∀ (pins:List (Addr × Obj)) (s:Shared) (σ:St) (H:Hp) (x:V) (v vl vu:Value) (lo hi:Option Int) (sl:Addr) (Q:VK),Inv X pins σ H s→RelV x v→s.heap.IsSliceOf sl vl vu .none→IsPart vl lo→IsPart vu hi→r x lo hi H Q →
    ∃ T id,typeLookup (.type T) "__getitem__" = pure (some (.builtin id))∧s.TypeIs v T∧wpAny (model X.prog X.w) X.A (getItem v (.ref sl)) (EP X pins σ Q) X.xe s
def tSl (r:V→Option Int→Option Int→Hp→VK→Prop) (te:TE) (tl th:TO):TE:=fun σ H Q=>te σ H fun x H1=>tl σ H1 fun l H2=>th σ H2 fun u H3=>r x l u H3 Q
theorem pe_slice {r:V→Option Int→Option Int→Hp→VK→Prop} (hr:SlR X r) (he:PE X e te) (hl:PO X lo tl) (hu:PO X hi th):PE X (.Subscript e (.Slice lo hi none p2) pos) (tSl r te tl th):=by
  intro pins s σ H Q I h
  refine Subscript_ (thn (he pins s σ H _ I h) fun v s1 ⟨x,H1,I1,r1,q1⟩=>?_)
  refine wpAny_Slice (thn (hl pins s1 σ H1 _ I1 q1) fun vl s2 ⟨l,H2,I2,pl,q2⟩=>thn (hu pins s2 σ H2 _ I2 q2) fun vu s3 ⟨u,H3,I3,pu,q3⟩=>?_)
  rw [evalPart_none]
  refine wpAny_pure ?_
  have I4:Inv X pins σ H3 { s3 with heap:=s3.heap.push { cls:=.type "slice",data:=.fields #[vl,vu,.none] } }:=I3.kept (t':=s3.toks) fun b ob q=>Heap.get?_push_of_some _ q
  obtain ⟨T,id,hT,ht,hg⟩:=hr pins { s3 with heap:=s3.heap.push { cls:=.type "slice",data:=.fields #[vl,vu,.none] } } σ H3 x v vl vu l u s3.heap.objs.size Q I4 r1 (Heap.IsSliceOf.new ..) pl pu q3
  show wpAny (model X.prog X.w) X.A (subscriptTail e (.Slice lo hi none p2) v (.ref s3.heap.objs.size)) (EP X pins σ Q) X.xe { s3 with heap:=s3.heap.push { cls:=.type "slice",data:=.fields #[vl,vu,.none] } }
  exact tail_any (ops:=[.ref s3.heap.objs.size,v]) ht hT hg (by with_unfolding_all rfl)
def cutV (xs:List V) (lo hi:Option Int):List V:=(xs.drop (HT.sIx xs.length 0 lo)).take (HT.sIx xs.length xs.length hi - HT.sIx xs.length 0 lo)
theorem cutV_length (xs:List V) (lo hi:Option Int):(cutV xs lo hi).length ≤ xs.length:=by
  unfold cutV
  rw [List.length_take, List.length_drop]
  omega
def rSlT (K:PySem.W.Frag):V→Option Int→Option Int→Hp→VK→Prop:=fun x lo hi H Q=>∃ a xs,x = .ref a∧SqT K H a xs ∧
  ¬ (HT.sIx xs.length 0 lo = 0∧HT.sIx xs.length xs.length hi = xs.length)∧∀ p,H p = none→Q (.ref p) (upd H p (.tup (cutV xs lo hi)))
theorem sl_tup : SlR X (rSlT X.K) := by
  intro pins s σ H x v vl vu lo hi sl Q I rx hs pl pu h
  obtain ⟨a, xs, rfl, hx, hw, q⟩ := h
  cases rx
  obtain ⟨its, r, ht, hz⟩ := I.tuple hx
  have hlen:its.toArray.size = xs.length:=by rw [List.size_toArray]; exact r.length.symm
  refine ⟨"tuple",_,PyProof.Rows.slot_tuple_getitem.lookup,ht.typeIs,?_⟩
  refine HT.getItem_tuple_cut ht hs pl pu (by rw [hlen]; exact hw) ?_ (by rw [hlen]; exact hz)
  rw [hlen]
  refine ⟨.ref s.heap.objs.size,_,I.laid (t':=s.toks) (o:=.tup (cutV xs lo hi)) (fun b ob q=>Heap.get?_push_of_some _ q) (Nat.le_refl _) ?_,rfl,q _ (I.hok.fresh (Nat.le_refl _))⟩
  exact ⟨Nat.le_trans (cutV_length xs lo hi) hz,_,(r.drop (HT.sIx xs.length 0 lo)).take (HT.sIx xs.length xs.length hi - HT.sIx xs.length 0 lo),IsTup.new _ _⟩
end
end L2
namespace L2
open PySem PySem.Spec PyProof.Rows
def ixN (n:Nat) (i:Int):Option Nat:=if 0 ≤ i then (if i < n then some i.toNat else none) else if -(n:Int) ≤ i then some (i + n).toNat else none
def atI {α:Type} (xs:List α) (i:Int):Option α:=(ixN xs.length i).bind fun j=>xs[j]?
theorem ixN_seq {n:Nat} {i:Int} {j:Nat} (h:ixN n i = some j):seqIndex? i n = some j∧j < n∧-(n:Int) ≤ i∧i < n:=by
  unfold ixN at h
  by_cases h0 : 0 ≤ i
  · rw [if_pos h0] at h
    by_cases h1 : i < n
    · rw [if_pos h1] at h
      have e : i.toNat = j := Option.some.inj h
      exact ⟨by rw [seqIndex_of h0 h1,e],by omega,by omega,h1⟩
    · rw [if_neg h1] at h; cases h
  · rw [if_neg h0] at h
    by_cases h1 : -(n : Int) ≤ i
    · rw [if_pos h1] at h
      have e : (i + n).toNat = j := Option.some.inj h
      exact ⟨by rw [seqIndex_neg (by omega) h1,e],by omega,h1,by omega⟩
    · rw [if_neg h1] at h; cases h
theorem atI_get {α:Type} {xs:List α} {i:Int} {v:α} (h:atI xs i = some v):∃ j,seqIndex? i xs.length = some j∧xs[j]? = some v∧j < xs.length∧-(xs.length:Int) ≤ i∧i < xs.length:=by
  unfold atI at h
  cases e : ixN xs.length i with
  | none => rw [e] at h; cases h
  | some j =>
    rw [e] at h
    obtain ⟨h1, h2, h3, h4⟩ := ixN_seq e
    exact ⟨j, h1, h, h2, h3, h4⟩
theorem atI_nat {α:Type} {xs:List α} {j:Nat} {v:α} (h:xs[j]? = some v):atI xs (j:Int) = some v:=by
  have hj:j < xs.length:=(List.getElem?_eq_some_iff.mp h).1
  have e : ixN xs.length (j : Int) = some j := by
    unfold ixN
    rw [if_pos (by omega), if_pos (by omega)]; simp
  unfold atI; rw [e]; exact h
def PlainIx (b:Expr):Prop:=∀ o i,subscripted b false o i = operate [o,i] (getItem o i)
def IxR (X : Cx) (r : R2) : Prop :=
  ∀ (value slice:Expr) (pins:List (Addr × Obj)) (s:Shared) (σ:St) (H:Hp) (x y:V) (v u:Value) (Q:VK),Inv X pins σ H s→RelV x v→RelV y u→r x y H Q →
    subscripted slice false v u = operate [v,u] (getItem v u)→wpAny (model X.prog X.w) X.A (subscriptTail value slice v u) (EP X pins σ Q) X.xe s
def MtR (X:Cx) (id:String) (r:V→List V→Hp→VK→Prop):Prop :=
  ∀ (pins:List (Addr × Obj)) (s:Shared) (σ:St) (H:Hp) (x:V) (xs:List V) (v:Value) (us:List Value) (Q:VK),Inv X pins σ H s→RelV x v→Vals xs us→r x xs H Q →
    wpAny (model X.prog X.w) X.A (call (.builtin id) (v :: us)) (EP X pins σ Q) X.xe s
section
variable {X : Cx} {a b : Expr} {ta tb : TE} {pos : Pos}
theorem pe_ix {r:R2} (hr:IxR X r) (ha:PE X a ta) (hb:PE X b tb) (hs:PlainIx b):PE X (.Subscript a b pos) (tOp r ta tb):=by
  intro pins s σ H Q I h
  exact Subscript_ (binT ha hb I h fun v u s2 x y H2 I2 rx ry q=>hr a b pins s2 σ H2 x y v u Q I2 rx ry q (hs _ _))
def rIxL (K:PySem.W.Frag):R2:=fun x y H Q=>∃ p xs i v,x = .ref p∧y = .int i∧SqL K H p xs∧atI xs i = some v∧Q v H
def rIxT (K:PySem.W.Frag):R2:=fun x y H Q=>∃ p xs i v,x = .ref p∧y = .int i∧SqT K H p xs∧atI xs i = some v∧Q v H
theorem ix_list : IxR X (rIxL X.K) := by
  intro value slice pins s σ H x y v u Q I rx ry h hs
  obtain ⟨p, xs, i, z, rfl, rfl, hq, he, q⟩ := h
  cases rx
  obtain ⟨t, rfl⟩ := ry
  obtain ⟨its, r, pl, hz⟩ := I.list hq
  obtain ⟨j, h1, h2, h3, h4, h5⟩ := atI_get he
  obtain ⟨w, ew, rw'⟩ := r.get h2
  have hl := r.length
  have hn := line63
  have fin : EP X pins σ Q w s := ⟨z, H, I, rw', q⟩
  by_cases h0 : 0 ≤ i
  · have hj : i.toNat = j := by
      rw [seqIndex_of h0 h5] at h1
      exact Option.some.inj h1
    exact item_listR pl.isList h0 (by omega) (by rw [hj]; simpa using ew) fin hs
  · have hj : (i + (its.toArray.size : Int)).toNat = j := by
      rw [seqIndex_neg (by omega) h4] at h1
      rw [List.size_toArray, ← hl]
      exact Option.some.inj h1
    exact subscriptTail_builtinR (x:=w) pl.isList.typeIs slot_list_getitem.lookup
      (wpAny_getItem_list_neg (Q:=fun r s'=>r = w∧EP X pins σ Q r s') pl.isList (by omega) (by rw [List.size_toArray] <;> omega) (by omega) (by rw [hj]; simpa using ew) ⟨rfl,fin⟩) hs
theorem ix_tup : IxR X (rIxT X.K) := by
  intro value slice pins s σ H x y v u Q I rx ry h hs
  obtain ⟨p, xs, i, z, rfl, rfl, hq, he, q⟩ := h
  cases rx
  obtain ⟨t, rfl⟩ := ry
  obtain ⟨its, r, pl, hz⟩ := I.tuple hq
  obtain ⟨j, h1, h2, h3, h4, h5⟩ := atI_get he
  obtain ⟨w, ew, rw'⟩ := r.get h2
  have hl := r.length
  have hn := line63
  have fin : EP X pins σ Q w s := ⟨z, H, I, rw', q⟩
  exact subscriptTail_builtinR (x:=w) pl.typeIs slot_tuple_getitem.lookup
    (getItem_tuple (j:=j) (Q:=fun r s'=>r = w∧EP X pins σ Q r s') pl (by omega) (by omega) (by rw [List.size_toArray,← hl]; exact h1) (by simpa using ew) ⟨rfl,fin⟩) hs
theorem mapSeq_set (its:List Value) (n j:Nat) (u:Value):Obj.mapSeq (·.setIfInBounds j u) { cls:=.type "list",data:=.seq its.toArray n } = { cls:=.type "list",data:=.seq (its.set j u).toArray n }:=by
  simp [Obj.mapSeq]
theorem Inv.lst {pins:List (Addr × Obj)} {σ:St} {H:Hp} {s:Shared} {p:Addr} {xs:List V} (I:Inv X pins σ H s) (h:H p = some (.lst xs)) :
    ∃ (its:List Value) (n:Nat),Vals xs its∧s.heap.get? p = some { cls:=.type "list",data:=.seq its.toArray n }∧xs.length ≤ sizeLine:=by
  obtain ⟨z, its, n, r, e⟩ := I.hok p _ h
  exact ⟨its, n, r, e, z⟩
theorem Inv.lstUpd {pins:List (Addr × Obj)} {σ:St} {H:Hp} {s:Shared} {p:Addr} {xs ys:List V} {its its':List Value} {n n':Nat} {f:Obj→Obj} (I:Inv X pins σ H s) (h:H p = some (.lst xs))
    (ho:s.heap.get? p = some { cls:=.type "list",data:=.seq its.toArray n }) (hf:f { cls:=.type "list",data:=.seq its.toArray n } = { cls:=.type "list",data:=.seq its'.toArray n' }) (r:Vals ys its') (hz:ys.length ≤ sizeLine) (t:Nat) :
    Inv X pins σ (upd H p (.lst ys)) { s with heap:=s.heap.update p f,toks:=t }:=by
  have e:(s.heap.update p f).get? p = some { cls:=.type "list",data:=.seq its'.toArray n' }:=by
    rw [Heap.get?_update_self f ho (by rw [hf] <;> rfl), hf]
  refine I.write (x:=p) (e:=p) (by rw [h]; trivial) (.inl rfl) (fun b u hb q=>(Heap.get?_update_other _ _ (Ne.symm hb)).trans q) ⟨_,e⟩ ?_
  exact ⟨hz, its', n', r, e⟩
def rSetL:V→V→V→Hp→(Hp→Prop)→Prop:=fun o i v H Q=>∃ p xs k j,o = .ref p∧i = .int k∧H p = some (.lst xs)∧ixN xs.length k = some j∧Q (upd H p (.lst (xs.set j v)))
theorem set_list : PSet X rSetL := by
  intro pins s σ H o i v ov iv u Q I ro ri rv h
  obtain ⟨p, xs, k, j, rfl, rfl, hp, hj, q⟩ := h
  cases ro
  obtain ⟨t, rfl⟩ := ri
  obtain ⟨its, n, r, ho, hz⟩ := I.lst hp
  obtain ⟨h1, h2, h3, h4⟩ := ixN_seq hj
  have hl := r.length
  have hn := line63
  have I':Inv X pins σ (upd H p (.lst (xs.set j v))) { s with heap:=s.heap.update p (Obj.mapSeq (·.setIfInBounds j u)) } :=
    I.lstUpd hp ho (mapSeq_set its n j u) (r.set rv j) (by rw [List.length_set]; exact hz) s.toks
  by_cases h0 : 0 ≤ k
  · have hk : k.toNat = j := by
      rw [seqIndex_of h0 h4] at h1
      exact Option.some.inj h1
    exact PySem.W.ki_setAt ho h0 (by omega) (by rw [List.size_toArray,← hl]; exact h4) (by rw [hk]; exact ⟨_,I',q⟩)
  · have hk : (k + (its.toArray.size : Int)).toNat = j := by
      rw [seqIndex_neg (by omega) h3] at h1
      rw [List.size_toArray, ← hl]
      exact Option.some.inj h1
    exact PySem.W.ki_setBack ho (by omega) (by rw [List.size_toArray,← hl]; exact h3) (by omega) (by rw [hk]; exact ⟨_,I',q⟩)
theorem slice_bounds (lo hi:Option Int) (n:Nat):(sliceBounds lo hi none n).1 = ((HT.sIx n 0 lo:Nat):Int)∧(sliceBounds lo hi none n).2.1 = ((HT.sIx n n hi:Nat):Int)∧(sliceBounds lo hi none n).2.2 = 1:=by
  refine ⟨?_, ?_, rfl⟩
  · cases lo with
    | none => simp [sliceBounds, HT.sIx]
    | some i =>
      simp only [sliceBounds,HT.sIx,Option.getD_none,show (1:Int) > 0 by decide,if_true]
      by_cases h : i < 0
      · simp only [h, if_true] <;> omega
      · simp only [h, if_false] <;> omega
  · cases hi with
    | none => simp [sliceBounds, HT.sIx]
    | some i =>
      simp only [sliceBounds,HT.sIx,Option.getD_none,show (1:Int) > 0 by decide,if_true]
      by_cases h : i < 0
      · simp only [h, if_true] <;> omega
      · simp only [h, if_false] <;> omega
theorem slicePick_cut (its:List Value) (lo hi:Option Int):slicePick its.toArray lo hi none = ((its.drop (HT.sIx its.length 0 lo)).take (HT.sIx its.length its.length hi - HT.sIx its.length 0 lo)).toArray:=by
  obtain ⟨h1, h2, h3⟩ := slice_bounds lo hi its.toArray.size
  unfold slicePick
  rw [h1, h2, h3]
  simp only [sliceRange_one,pick_run,List.size_toArray] <;> rfl
def rSlL (K:PySem.W.Frag):V→Option Int→Option Int→Hp→VK→Prop:=fun x lo hi H Q=>∃ a xs,x = .ref a∧SqL K H a xs∧∀ p,H p = none→Q (.ref p) (upd H p (.lst (cutV xs lo hi)))
theorem sl_list : SlR X (rSlL X.K) := by
  intro pins s σ H x v vl vu lo hi sl Q I rx hs pl pu h
  obtain ⟨a, xs, rfl, hx, q⟩ := h
  cases rx
  obtain ⟨its, r, ht, hz⟩ := I.list hx
  have hlen := r.length
  refine ⟨"list",_,slot_list_getitem.lookup,ht.isList.typeIs,?_⟩
  refine wpAny_getItem_list_slice ht.isList hs pl pu .none (by simp) ?_ (by rw [List.size_toArray] <;> omega)
  rw [slicePick_cut, ← hlen]
  refine ⟨.ref s.heap.objs.size,_,I.laid (t':=s.toks) (o:=.lst (cutV xs lo hi)) (fun b ob q=>Heap.get?_push_of_some _ q) (Nat.le_refl _) ?_,rfl,q _ (I.hok.fresh (Nat.le_refl _))⟩
  exact ⟨Nat.le_trans (cutV_length xs lo hi) hz,_,0,(r.drop (HT.sIx xs.length 0 lo)).take (HT.sIx xs.length xs.length hi - HT.sIx xs.length 0 lo),Heap.get?_push_size _ rfl⟩
def flatV : V → Bool
  | .non => true
  | .bl _ => true
  | .int _ => true
  | .str _ => true
  | _ => false
def eqV : V → V → Bool
  | .non, .non => true
  | .bl a, .bl b => a == b
  | .bl a, .int b => (if a then 1 else 0) == b
  | .int a, .bl b => a == (if b then 1 else 0)
  | .int a, .int b => a == b
  | .str a, .str b => a == b
  | _, _ => false
theorem eqAt_V {A:Around} {s:Shared} {y x:V} {u v:Value} (ry:RelV y u) (rx:RelV x v) (fy:flatV y = true) (fx:flatV x = true):SeqAt.EqAt A s u v (eqV y x):=by
  cases y with
  | non =>
    cases ry
    cases x with
    | non => cases rx; exact SeqAt.EqAt.same _
    | bl b => cases rx; exact SeqAt.EqAt.none_bool b
    | int b=>obtain ⟨t,rfl⟩:=rx; exact SeqAt.EqAt.none_int b t
    | str b=>obtain ⟨t,rfl⟩:=rx; exact SeqAt.EqAt.none_str b t
    | _=>exact absurd (show false = true from fx) Bool.false_ne_true
  | bl a =>
    cases ry
    cases x with
    | non => cases rx; exact SeqAt.EqAt.bool_none a
    | bl b => cases rx; exact SeqAt.EqAt.bool_bool a b
    | int b=>obtain ⟨t,rfl⟩:=rx; exact SeqAt.EqAt.bool_int a b t
    | str b=>obtain ⟨t,rfl⟩:=rx; exact SeqAt.EqAt.bool_str a b t
    | _=>exact absurd (show false = true from fx) Bool.false_ne_true
  | int a =>
    obtain ⟨t', rfl⟩ := ry
    cases x with
    | non => cases rx; exact SeqAt.EqAt.int_none a t'
    | bl b => cases rx; exact SeqAt.EqAt.int_bool a t' b
    | int b=>obtain ⟨t,rfl⟩:=rx; exact SeqAt.EqAt.int_int a t' b t
    | str b=>obtain ⟨t,rfl⟩:=rx; exact SeqAt.EqAt.int_str a t' b t
    | _=>exact absurd (show false = true from fx) Bool.false_ne_true
  | str a =>
    obtain ⟨t', rfl⟩ := ry
    cases x with
    | non => cases rx; exact SeqAt.EqAt.str_none a t'
    | bl b => cases rx; exact SeqAt.EqAt.str_bool a t' b
    | int b=>obtain ⟨t,rfl⟩:=rx; exact SeqAt.EqAt.str_int a t' b t
    | str b=>obtain ⟨t,rfl⟩:=rx; exact SeqAt.EqAt.str_str a t' b t
    | _=>exact absurd (show false = true from fx) Bool.false_ne_true
  | _=>exact absurd (show false = true from fy) Bool.false_ne_true
def eqU (x : V) (u : Value) : Bool := match u with
  | .none => eqV .non x
  | .bool b => eqV (.bl b) x
  | .int i _ => eqV (.int i) x
  | .str z _ => eqV (.str z) x
  | _ => false
theorem eqU_of {x y:V} {u:Value} (r:RelV y u) (f:flatV y = true):eqU x u = eqV y x:=by
  cases y with
  | non => cases r; rfl
  | bl b => cases r; rfl
  | int i => obtain ⟨t, rfl⟩ := r; rfl
  | str z => obtain ⟨t, rfl⟩ := r; rfl
  | _=>exact absurd (show false = true from f) Bool.false_ne_true
theorem any_eqU {x:V}:∀ {xs:List V} {us:List Value},Vals xs us→xs.all flatV = true→us.any (eqU x) = xs.any fun y=>eqV y x
  | _, _, .nil, _ => rfl
  | y :: xs, u :: us, .cons r t, f => by
    rw [List.all_cons, Bool.and_eq_true] at f
    rw [List.any_cons,List.any_cons,eqU_of r f.1,any_eqU t f.2]
theorem mem_eqAt {A:Around} {s:Shared} {x:V} {v:Value} (rx:RelV x v) (fx:flatV x = true):∀ {xs:List V} {us:List Value},Vals xs us→xs.all flatV = true→∀ u ∈ us,SeqAt.EqAt A s u v (eqU x u)
  | _, _, .nil, _ => fun u hu => by cases hu
  | y :: xs, u :: us, .cons r t, f => fun u' hu => by
    rw [List.all_cons, Bool.and_eq_true] at f
    rcases List.mem_cons.mp hu with rfl | hu
    · rw [eqU_of r f.1]; exact eqAt_V r rx f.1 fx
    · exact mem_eqAt rx fx t f.2 u' hu
def inV (x:V) (xs:List V):Bool:=xs.any fun y=>eqV y x
def rIn (K:PySem.W.Frag) (neg:Bool):R2:=fun x y H Q=>∃ p xs,y = .ref p∧(SqL K H p xs ∨ SqT K H p xs)∧flatV x = true∧xs.all flatV = true∧Q (.bl (if neg then !inV x xs else inV x xs)) H
theorem op_in_seq:OpR X (compareOp .In) (rIn X.K false):=by
  intro pins s σ H x y v u Q I rx ry h
  obtain ⟨p, xs, rfl, hq, fx, fs, q⟩ := h
  cases ry
  rcases hq with hq | hq
  · obtain ⟨its, r, pl, hz⟩ := I.list hq
    refine SeqAt.in_listAt (eqU x) pl.isList (fun w hw=>mem_eqAt rx fx r fs w (by simpa using hw)) ⟨.bl _,H,I,rfl,?_⟩
    rw [show its.toArray.any (eqU x) = its.any (eqU x) by simp,any_eqU r fs]
    exact q
  · obtain ⟨its, r, pl, hz⟩ := I.tuple hq
    refine SeqAt.in_tupleAt (eqU x) pl (fun w hw=>mem_eqAt rx fx r fs w (by simpa using hw)) ⟨.bl _,H,I,rfl,?_⟩
    rw [show its.toArray.any (eqU x) = its.any (eqU x) by simp,any_eqU r fs]
    exact q
theorem op_notIn_seq:OpR X (compareOp .NotIn) (rIn X.K true):=by
  intro pins s σ H x y v u Q I rx ry h
  obtain ⟨p, xs, rfl, hq, fx, fs, q⟩ := h
  cases ry
  rcases hq with hq | hq
  · obtain ⟨its, r, pl, hz⟩ := I.list hq
    refine SeqAt.notIn_listAt (eqU x) pl.isList (fun w hw=>mem_eqAt rx fx r fs w (by simpa using hw)) ⟨.bl _,H,I,rfl,?_⟩
    rw [show its.toArray.any (eqU x) = its.any (eqU x) by simp,any_eqU r fs]
    exact q
  · obtain ⟨its, r, pl, hz⟩ := I.tuple hq
    refine SeqAt.notIn_tupleAt (eqU x) pl (fun w hw=>mem_eqAt rx fx r fs w (by simpa using hw)) ⟨.bl _,H,I,rfl,?_⟩
    rw [show its.toArray.any (eqU x) = its.any (eqU x) by simp,any_eqU r fs]
    exact q
theorem call_len_seq:CallR X (.builtin "len") (fun xs H Q=>∃ p ys,xs = [.ref p]∧(SqL X.K H p ys ∨ SqT X.K H p ys)∧Q (.int ys.length) H):=by
  intro pins s σ H xs us Q I r h
  obtain ⟨p, ys, rfl, hq, q⟩ := h
  obtain ⟨u, rfl, rx⟩ := vals1 r
  cases rx
  have hn := line63
  rcases hq with hq | hq
  · obtain ⟨its, r', pl, hz⟩ := I.list hq
    have hlen := r'.length
    exact Calls.call_len_list pl.isList (by simp only [List.size_toArray] <;> omega) ⟨.int ys.length,H,I.tok _,⟨s.toks + 1,by rw [List.size_toArray,hlen]⟩,q⟩
  · obtain ⟨its, r', pl, hz⟩ := I.tuple hq
    have hlen := r'.length
    exact len_tuple pl (by simp only [List.size_toArray] <;> omega) ⟨.int ys.length,H,I.tok _,⟨s.toks + 1,by rw [List.size_toArray,hlen]⟩,q⟩
theorem call_len_str:CallR X (.builtin "len") (fun xs H Q=>∃ z,xs = [.str z]∧z.length ≤ sizeLine∧Q (.int z.length) H):=by
  intro pins s σ H xs us Q I r h
  obtain ⟨z, rfl, hz, q⟩ := h
  obtain ⟨u, rfl, t, rfl⟩ := vals1 r
  have hn := line63
  exact len_str (by omega) ⟨.int z.length,H,I.tok _,⟨_,rfl⟩,q⟩
theorem call_list_of:CallR X (.type "list") (fun xs H Q=>∃ p ys,xs = [.ref p]∧(SqL X.K H p ys ∨ SqT X.K H p ys)∧∀ l,H l = none→Q (.ref l) (upd H l (.lst ys))):=by
  intro pins s σ H xs us Q I r h
  obtain ⟨p, ys, rfl, hq, q⟩ := h
  obtain ⟨u, rfl, rx⟩ := vals1 r
  cases rx
  have fin:∀ (its:List Value),Vals ys its→ys.length ≤ sizeLine→∀ (h':Heap) (c':Nat),(∀ b o',s.heap.get? b = some o'→h'.get? b = some o') →
      h'.get? s.heap.objs.size = some { cls:=.type "list",dict:=none,data:=.seq its.toArray c',slots:=#[] }→EP X pins σ Q (.ref s.heap.objs.size) { s with heap:=h' }:=fun its r' hz h' c' kp e =>
    ⟨.ref s.heap.objs.size,_,I.laid (t':=s.toks) kp (Nat.le_refl _) (show ObjOk X.prog X.w _ h' _ (.lst ys) from ⟨hz,its,c',r',e⟩),rfl,q _ (I.hok.fresh (Nat.le_refl _))⟩
  rcases hq with hq | hq
  · obtain ⟨its, r', pl, hz⟩ := I.list hq
    have hlen := r'.length
    obtain ⟨o, ho, hc, n, hd⟩ := pl.isList
    exact call_list_seq p (.inl rfl) ho hc hd (fun h' c' kp e=>fin its r' hz h' c' kp e) (by simp only [List.size_toArray] <;> omega)
  · obtain ⟨its, r', pl, hz⟩ := I.tuple hq
    have hlen := r'.length
    obtain ⟨o, ho, hc, n, hd⟩ := pl
    exact call_list_seq p (.inr rfl) ho hc hd (fun h' c' kp e=>fin its r' hz h' c' kp e) (by simp only [List.size_toArray] <;> omega)
theorem call_tuple_of:CallR X (.type "tuple") (fun xs H Q=>∃ p ys,xs = [.ref p]∧((SqL X.K H p ys∧∀ l,H l = none→Q (.ref l) (upd H l (.tup ys))) ∨ (SqT X.K H p ys∧Q (.ref p) H))):=by
  intro pins s σ H xs us Q I r h
  obtain ⟨p, ys, rfl, h⟩ := h
  obtain ⟨u, rfl, rx⟩ := vals1 r
  cases rx
  rcases h with ⟨hq, q⟩ | ⟨hq, q⟩
  · obtain ⟨its, r', pl, hz⟩ := I.list hq
    have hlen := r'.length
    refine call_tuple_list pl.isList (fun h' kp=>?_) (by simp only [List.size_toArray] <;> omega)
    have I1:Inv X pins σ H { s with heap:=h' }:=I.kept (t':=s.toks) kp
    have I2:Inv X pins σ (upd H h'.objs.size (.tup ys)) { s with heap:=h'.push { cls:=.type "tuple",data:=.seq its.toArray } } :=
      I1.laid (t':=s.toks) (fun b o e=>Heap.get?_push_of_some _ e) (Nat.le_refl _) (show ObjOk X.prog X.w _ _ _ (.tup ys) from ⟨hz,its,r',IsTup.new _ _⟩)
    exact ⟨.ref h'.objs.size,_,I2,rfl,q _ (I1.hok.fresh (Nat.le_refl _))⟩
  · obtain ⟨its, r', pl, hz⟩ := I.tuple hq
    exact call_tuple_same pl ⟨.ref p, H, I, rfl, q⟩
def tyV (K:PySem.W.Frag) (T:String) (x:V) (H:Hp):Prop:=match x with
  | .str _ => T = "str"
  | .int _ => T = "int"
  | .ref p=>(T = "list"∧∃ xs,SqL K H p xs) ∨ (T = "tuple"∧∃ o,K.lookup p = some o∧o.cls = .type "tuple"∧o.dict = none) ∨
      (T = "dict"∧((∃ kvs,H p = some (.dK kvs)) ∨ ∃ kvs,H p = some (.dT kvs))) ∨ (T = "set"∧∃ S n,H p = some (.set S n))
  | _ => False
theorem tyV_is {pins:List (Addr × Obj)} {σ:St} {H:Hp} {s:Shared} {T:String} {x:V} {v:Value} (I:Inv X pins σ H s) (r:RelV x v) (ty:tyV X.K T x H) :
    s.TypeIs v T∧∀ a,v = .ref a→∃ ob,s.heap.get? a = some ob∧ob.dict = none:=by
  cases x with
  | str z =>
    obtain ⟨t, rfl⟩ := r
    cases (show T = "str" from ty)
    exact ⟨typeIs_str s z t, fun _ e => nomatch e⟩
  | int i =>
    obtain ⟨t, rfl⟩ := r
    cases (show T = "int" from ty)
    exact ⟨typeIs_int s i t, fun _ e => nomatch e⟩
  | ref p =>
    cases r
    rcases ty with ⟨rfl,xs,hq⟩ | ⟨rfl,o,hk,hc,hd⟩ | ⟨rfl,hk⟩ | ⟨rfl,S,n,hk⟩
    · obtain ⟨its, _, pl, _⟩ := I.list hq
      refine ⟨pl.isList.typeIs, fun a e => ?_⟩
      cases e
      obtain ⟨o, n, e, c, hd, _⟩ := pl
      exact ⟨o, e, hd⟩
    · refine ⟨⟨o, I.kIn p o hk, hc⟩, fun a e => ?_⟩
      cases e
      exact ⟨o, I.kIn _ o hk, hd⟩
    · have z:∃ o,s.heap.get? p = some o∧o.ExactDict:=by
        rcases hk with ⟨kvs, hk⟩ | ⟨kvs, hk⟩
        · obtain ⟨_,_,_,_,o,_,_,e,ex,_⟩:=I.hok p _ hk
          exact ⟨o, e, ex⟩
        · obtain ⟨_,_,_,_,o,_,_,e,ex,_⟩:=I.hok p _ hk
          exact ⟨o, e, ex⟩
      obtain ⟨o, e, ex⟩ := z
      refine ⟨⟨o, e, ex.1⟩, fun a e2 => ?_⟩
      cases e2
      exact ⟨o, e, ex.2.1⟩
    · obtain ⟨o, _, _, _, e, ex, _⟩ := I.hok p _ hk
      refine ⟨⟨o, e, ex.1⟩, fun a e2 => ?_⟩
      cases e2
      exact ⟨o, e, ex.2.1⟩
  | _ => exact False.elim ty
def tBM (K:PySem.W.Frag) (T:String) (r:V→List V→Hp→VK→Prop) (to:TE) (t:TA):TE:=fun σ H Q=>to σ H fun x H1=>tyV K T x H1∧t σ H1 fun xs H2=>r x xs H2 Q
variable {o e:Expr} {es:List Expr} {to:TE} {t:TA} {name:Str} {apos cpos:Pos} {T id:String} {r:V→List V→Hp→VK→Prop}
theorem pe_bm (pa:PlainAttrs T) (slot:Slot T name id) (hty:typeOf (.builtin id) = pure (.type "method_descriptor")) (hm:MtR X id r) (ho:PE X o to) (ha:PA X (e :: es) t)
    (hbase:attributeBase o name X.env (eval o X.env) = eval o X.env:=by rfl)
    (hfew:((backTo cpos (starEach (e :: es) X.env)).all (fun x=>!x.1) && (backToKw cpos (keywordEach [] X.env)).all (fun x=>x.1.isSome)
      && decide ((e :: es).length + ([]:List Keyword).length + (if ([]:List Keyword).isEmpty then 0 else 1) < 30)) = true:=by rfl)
    (hline:(apos.endLine == cpos.line) = true:=by rfl) (hs:starEach (e :: es) X.env = (false,eval e X.env) :: starEach es X.env:=by rfl) (hplain:(backTo cpos (starEach es X.env)).any (·.1) = false:=by rfl) :
    PE X (.Call (.Attribute o name apos) (e :: es) [] cpos) (tBM X.K T r to t):=by
  intro pins s σ H Q I h
  refine wpAny_Call_method_late hbase hfew hline rfl (thn (ho pins s σ H _ I h) fun v s1 ⟨x,H1,I1,r1,ty,q1⟩=>?_)
  obtain ⟨h1, h2⟩ := tyV_is I1 r1 ty
  refine ⟨T, id, pa, slot, hty, h1, h2, ?_⟩
  have hA := ha cpos pins s1 σ H1 _ I1 q1
  rw [hs] at hA ⊢
  refine Calls.callWith_builtin (by show (false || (backTo cpos (starEach es X.env)).any (·.1)) = false; rw [hplain] <;> rfl) (Calls.evalArgs_plain ?_)
  exact thn hA fun us s2 ⟨vs,H2,I2,r2,q2⟩=>hm pins s2 σ H2 x vs v us Q I2 r1 r2 q2
/- xs.append(e),list.index on a module's tuple .. are MtR facts of 06m -/
end
end L2
namespace L2
open PySem PySem.Spec PyProof.Rows
def MtM (X:Cx) (id:String) (r:V→List V→Hp→VK→Prop):Prop :=
  ∀ (pins:List (Addr × Obj)) (s:Shared) (σ:St) (H:Hp) (x:V) (xs:List V) (v:Value) (us:List Value) (Q:VK),Inv X pins σ H s→RelV x v→Vals xs us→r x xs H Q →
    wpAny (model X.prog X.w) X.A (call (.builtin id) (v :: us)) (EP X pins σ Q) X.xe s
theorem Vals.one:∀ {x:V} {us:List Value},Vals [x] us→∃ u,us = [u]∧RelV x u
  | _, _, .cons r .nil => ⟨_, rfl, r⟩
section
variable {X:Cx} {pins:List (Addr × Obj)} {σ:St} {H:Hp} {s:Shared} {l b:Addr} {xs ys zs:List V}
theorem Inv.lset {its its':List Value} {n:Nat} {f:Array Value→Array Value} {t':Nat} (I:Inv X pins σ H s) (hH:H l = some (.lst xs))
    (e:s.heap.get? l = some { cls:=.type "list",data:=.seq its.toArray n }) (hf:f its.toArray = its'.toArray) (hv:Vals ys its') (hz:ys.length ≤ sizeLine) :
    Inv X pins σ (upd H l (.lst ys)) { s with heap:=s.heap.update l (Obj.mapSeq f),toks:=t' }:=by
  have q := PySem.IsL.update e f
  rw [hf] at q
  refine I.write (x:=l) (e:=l) (by rw [hH]; exact trivial) (.inl rfl) (fun b' u hb hu=>(Heap.get?_update_other s.heap (Obj.mapSeq f) (Ne.symm hb)).trans hu) ⟨_,q⟩ ?_
  exact ⟨hz, its', _, hv, q⟩
theorem Inv.lnew {its:List Value} {t':Nat} (I:Inv X pins σ H s) (hv:Vals ys its) (hz:ys.length ≤ sizeLine) :
    Inv X pins σ (upd H s.heap.objs.size (.lst ys)) { s with heap:=s.heap.push { cls:=.type "list",data:=.seq its.toArray },toks:=t' } :=
  I.laid (fun _ _ q=>Heap.get?_push_of_some _ q) (Nat.le_refl _) ⟨hz,its,0,hv,Heap.get?_push_size _ rfl⟩
theorem Inv.fresh (I:Inv X pins σ H s):H s.heap.objs.size = none:=I.hok.fresh (Nat.le_refl _)
theorem Inv.lstM (I:Inv X pins σ H s) (hH:H l = some (.lst xs)):xs.length ≤ sizeLine∧∃ (its:List Value) (n:Nat),Vals xs its∧xs.length = its.length∧s.heap.get? l = some { cls:=.type "list",data:=.seq its.toArray n }:=by
  obtain ⟨z, its, n, r, e⟩ := I.hok l _ hH
  exact ⟨z, its, n, r, r.length, e⟩
theorem notLongL {n:Nat} (h:n ≤ sizeLine):Builtin.List.listTooLong n = false:=by
  unfold Builtin.List.listTooLong
  exact decide_eq_false (by omega)
end
section
variable {X : Cx}
def rAppend:V→List V→Hp→VK→Prop:=fun x vs H Q=>∃ l xs y,x = .ref l∧vs = [y]∧H l = some (.lst xs)∧xs.length < sizeLine∧Q .non (upd H l (.lst (xs ++ [y])))
theorem mt_append : MtM X "list.append" rAppend := by
  intro pins s σ H x vs v us Q I rx rv h
  obtain ⟨l, xs, y, rfl, rfl, hH, hz, q⟩ := h
  cases rx
  obtain ⟨u, rfl, ru⟩ := rv.one
  obtain ⟨z, its, n, r, hl, e⟩ := I.lstM hH
  refine call_meets F.slot_list_append ⟨_,e,rfl⟩ F.entry_list_append (F.args_list_append_2 _ _) (PySem.list_append l its.toArray n u (by rw [List.size_toArray]; omega)) ⟨e,?_⟩
  refine ⟨.non,_,I.lset (its':=its ++ [u]) hH e (by simp) (r.append (.cons ru .nil)) ?_,rfl,q⟩
  rw [List.length_append, List.length_singleton]
  omega
def rCat:R2:=fun x y H Q=>∃ l b xs zs,x = .ref l∧y = .ref b∧H l = some (.lst xs)∧H b = some (.lst zs)∧xs.length + zs.length ≤ sizeLine∧∀ p,H p = none→Q (.ref p) (upd H p (.lst (xs ++ zs)))
theorem op_cat : OpR X (binaryOp .Add) rCat := by
  intro pins s σ H x y v u Q I rx ry h
  obtain ⟨l, b, xs, zs, rfl, rfl, hH, hB, hz, q⟩ := h
  cases rx
  cases ry
  obtain ⟨z, its, n, r, hl, e⟩ := I.lstM hH
  obtain ⟨z2, its2, n2, r2, hl2, e2⟩ := I.lstM hB
  refine PySem.P.add_list e e2 ?_ (by rw [List.size_toArray,List.size_toArray]; omega)
  have ea:its.toArray ++ its2.toArray = (its ++ its2).toArray:=by simp
  rw [ea]
  exact ⟨.ref _,_,I.lnew (t':=s.toks) (r.append r2) (by rw [List.length_append]; omega),rfl,q _ I.fresh⟩
end
section
variable {prog:Program} {w:World} {A:Around} {E:Value→Shared→Prop} {s:Shared}
set_option maxRecDepth 100000 in
end
section
variable {X : Cx}
end
end L2
namespace Att
open PySem PySem.W PySem.Calls PyProof.Rows
theorem ints_of_wellAll {P:Params} {h:Heap}:∀ (ns:List Int) (vs:List Value),WellAll P h vs (ns.map WData.int)→IntsAre vs ns:=by
  intro ns
  induction ns with
  | nil =>
    intro vs w
    rw [List.map_nil] at w
    cases w
    exact .nil
  | cons n ns ih =>
    intro vs w
    rw [List.map_cons] at w
    cases w with
    | cons a b =>
      cases a
      exact .cons _ _ (ih _ b)
theorem script_of {l:OpenLaw} {n:Nat} (hn:l.most = some n) {P:Params} {h:Heap} {args:List WData} {vals:List Value}
    (hpre:l.row.toRowW.claim.pre args = true) (hwl:WellAll P h vals args) :
    ∃ a vs ns,vals = [Value.ref a]∧args = [WData.list (ns.map WData.int)]∧h.get? a = some { cls:=.type "list",data:=.seq vs.toArray }∧IntsAre vs ns∧ns.length ≤ n:=by
  have hsh:WShape.hasAll [] args [.list .int] = true:=(pre_splitW hpre).1
  have hc:l.pre.holds [] { args:=args } = true:=(pre_splitW hpre).2
  obtain ⟨d, r, rfl, h1, h2⟩ := hasAllW_cons hsh
  obtain rfl := hasAllW_nil h2
  obtain ⟨xs, rfl, h3⟩ := hasW_list h1
  obtain ⟨ns, rfl⟩ := items_int h3
  have hlen : ns.length ≤ n := by
    unfold OpenLaw.pre at hc
    have h4:(WTm.not (.lt (.lit (.int (n:Int))) (.len (.arg 0)))).holds [] { args:=[.list (ns.map .int)] } = true:=by
      have h4 := (holds_andW hc).1
      rw [hn] at h4
      exact h4
    have h5:=condW_of h4 (w_not (w_lt w_lit (w_len_list (w_arg rfl))))
    rw [List.length_map] at h5
    refine Nat.le_of_not_lt fun q => ?_
    have q':(n:Int) < ((ns.length:Nat):Int):=by omega
    first
      | (rw [decide_eq_true q'] at h5; exact absurd h5 (by decide))
      | (simp at h5; omega)
  cases hwl with
  | cons w1 w2 =>
    cases w2
    cases w1 with
    | list ho hall=>exact ⟨_,_,ns,rfl,rfl,ho,ints_of_wellAll ns _ hall,hlen⟩
theorem post_true (l:OpenLaw) (args:List WData):l.row.toRowW.claim.post args (.bool true) args = true :=
  postW_of (r := l.row.toRowW) (X := (true == true))
    (show WShape.has [] (.bool true) .bool = true by first | rfl | decide | simp [WShape.has,WShape.arms,WShape.armsAll])
    (show (WTm.eq .res (.lit (.bool true))).value [] { args:=args,res:=some (.bool true),after:=args } = some (.bool (true == true)) from w_eq_bool (w_res rfl) w_lit) rfl
theorem attach_call {l:OpenLaw} {n:Nat} {q:Program} {loose:List Str} {XP:(Str→Option Value)→Heap→Prop} {YP:World→Heap→Prop} {d:DefRec}
    (hn : l.most = some n) (hdf : d.params.defaults = [])
    (call:∀ (w:World) (s₀ s₁:Shared) (mg mb:Str→Option Value) (fa:Addr) (o:Obj) (pm cd doc:Value) (a:Addr) (vs:List Value) (ns:List Int),
      Ground q loose [] XP w s₀ mg mb s₁.heap→YP w s₁.heap →
      s₁.heap.get? fa = some o→o.data = .func (docDef d.name d.params d.body d.scope pm cd doc)→s₁.heap.CodeRec cd d.name→mg d.name = some (.ref fa) →
      s₁.heap.get? a = some { cls:=.type "list",data:=.seq vs.toArray }→IntsAre vs ns→ns.length ≤ n→s₁.gens = #[] →
      codeAny (model l.prog w) callerA (.call (.ref fa) ⟨[.ref a],[]⟩) (fun r s'=>r = .ok (.ret (.bool true))∧OldK s₁.heap s'.heap∧s'.os = s₁.os∧AllBare s'.gens) s₁) :
    WalkO q loose XP YP l.row.toRowW d [] (fun f vs=>PySem.call f vs):=by
  intro w s₀ s₁ mg mb G Y fa o pm cd doc dV kV ho hd hcd hD hmg hg args vals as hpre hlay hrd hwl hlo
  obtain rfl : dV = .none := Dflts.none hD hdf
  obtain rfl : kV = .none := Dflts.noKw hD
  obtain ⟨a,vs,ns,rfl,rfl,hobj,hints,hlen⟩:=script_of hn hpre hwl
  refine enter_call (codeAny_mono (call w s₀ s₁ mg mb fa o pm cd doc a vs ns G Y ho (fd_plain hd) hcd hmg hobj hints hlen hg) fun r s' hq=>?_)
  obtain ⟨rfl, h2, h3, h4⟩ := hq
  exact ⟨.inl ⟨.bool true,.bool true,[],rfl,fun _=>rfl,.bool true,post_true l _,fun _=>⟨List.Pairwise.nil,fun _ hm=>(nomatch hm)⟩⟩,h2,h3,h4⟩
section
variable {prog:Program} {w:World} {A:Around} {E:Value→Shared→Prop} {s:Shared} {K:Frag}
end
end Att
namespace L2
open PySem PySem.Spec PyProof.Rows
theorem vals_ints:∀ {vs:List Value} {ns:List Int},IntsAre vs ns→Vals (ns.map V.int) vs
  | _, _, .nil => .nil
  | _, _, .cons n t h => .cons ⟨t, rfl⟩ (vals_ints h)
def Only (H:Hp):Prop:=∀ b,H b = none ∨ ∃ o xs,H b = some (.frz o (.lst xs))
theorem law_call {P:Program} {w:World} {K:PySem.W.Frag} {mg mb:Str→Option Value} {CX:CXT} {k:Nat} {fa a:Addr} {fd:FuncData} {x:Str} {sp:Sp} {s₁:Shared} {vs:List Value} {ns:List Int}
    (KX:K.In s₁.heap) (hns:s₁.heap.Ns mainGlobals mg) (hb:s₁.heap.Ns builtinsNs mb) (hbb:∀ x:Str,x ≠ "__name__"→mb x = bootBuiltins x) (hlim:s₁.heap.NoLimit) (hg:s₁.gens = #[])
    (ha:s₁.heap.get? a = some { cls:=.type "list",data:=.seq vs.toArray }) (hi:IntsAre vs ns) (hl:ns.length ≤ sizeLine) (hr:Room k callerA)
    (F:∀ base:Heap,K.In base→base.Ns mainGlobals mg→FnOk P w K mg base CX k fa fd [x] sp) (hbind:∀ (s:Shared) (u:Value),BindsTo s fd ⟨[u],[]⟩ [(x,u)])
    (hsp:∀ H:Hp,Only H→SqL K H a (ns.map V.int)→sp [.ref a] H (fun v _=>v = .bl true) fun _ _ _=>False)
    (hCX:∀ H e s',CX [] H s₁ (fun _ _ _=>False) e s'→False) :
    codeAny (model P w) callerA (.call (.ref fa) ⟨[.ref a],[]⟩) (fun r s'=>r = .ok (.ret (.bool true))∧OldK s₁.heap s'.heap∧s'.os = s₁.os∧AllBare s'.gens) s₁:=by
  have rv := vals_ints hi
  have lenV := hi.length
  have core:∀ H:Hp,Only H→SqL K H a (ns.map V.int)→HOk P w H s₁.heap→(∀ b,H b ≠ none→b = a)→(H a ≠ none→K.lookup a = none) →
      codeAny (model P w) callerA (.call (.ref fa) ⟨[.ref a],[]⟩) (fun r s'=>r = .ok (.ret (.bool true))∧OldK s₁.heap s'.heap∧s'.os = s₁.os∧AllBare s'.gens) s₁:=by
    intro H hO hS hok hA hK
    have base_of:∀ {b:Addr} {o:Obj},s₁.heap.get? b = some o→H b = none→(hidT s₁.heap H).get? b = some o:=fun e n=>hidT_get e n
    have noA:∀ {b:Addr} {o:Obj} {es:Array DictEntry} {ep:Nat},s₁.heap.get? b = some o→o.data = .dict es ep→H b = none:=fun {b o es ep} e d=>by
      cases q : H b with
      | none => rfl
      | some u =>
        have e' : b = a := hA b (by rw [q]; simp)
        subst e'
        rw [ha] at e; cases e
        have d':Data.seq vs.toArray _ = Data.dict es ep:=d
        cases d'
    have nsK:∀ {b:Addr} {m:Str→Option Value},s₁.heap.Ns b m→(hidT s₁.heap H).Ns b m:=fun {b m} ⟨o,es,ep,e,d,r⟩=>⟨o,es,ep,base_of e (noA e d),d,r⟩
    have hKb:K.In (hidT s₁.heap H):=fun b o e=>base_of (KX b o e) (by
      cases q : H b with
      | none => rfl
      | some u =>
        have e' : b = a := hA b (by rw [q]; simp)
        subst e'
        rw [hK (by rw [q]; simp)] at e; cases e)
    have hM:Mod K mg (hidT s₁.heap H):=⟨hKb,nsK hns,⟨mb,nsK hb,hbb⟩,let ⟨mc,h1,h2⟩:=hlim; ⟨mc,nsK h1,h2⟩⟩
    have e0:Env0 P w K mg (hidT s₁.heap H) callerA [] s₁ H:=⟨rfl,hM,fun b o e=>of_hidT e,Nat.le_of_eq (hidT_size _ _),trivial,fun b hb=>absurd (show b ∈ ([]:List Addr) from hb) (by simp),hok,.of_eq hg⟩
    refine codeAny_mono ((F _ hKb (nsK hns)).run callerA [] s₁ H ⟨[.ref a],[]⟩ [.ref a] [.ref a] _ _ hr e0 (hbind s₁ (.ref a)) (.cons rfl .nil) (hsp H hO hS)) fun r s' h=>?_
    cases r with
    | error e => exact (hCX H e s' h).elim
    | ok fl =>
      cases fl with
      | next => exact False.elim h
      | brk => exact False.elim h
      | cont => exact False.elim h
      | ret u =>
        obtain ⟨v, H', os, bare, un, hok', r', q⟩ := h
        have q' : v = .bl true := q
        subst q'
        obtain rfl : u = Value.bool true := r'
        refine ⟨rfl, OldK.of_keep fun b o e => ?_, os, bare⟩
        cases q : H b with
        | none=>exact un.keep b o e q (by intro z; exact absurd (show b ∈ ([]:List Addr) from z) (by simp)) (by simp)
        | some u =>
          rcases hO b with z | ⟨ob, xs, z⟩
          · rw [q] at z; cases z
          · have z2 := un.frzs b ob _ z
            obtain ⟨e1, _⟩ := hok b _ z
            obtain ⟨e2, _⟩ := hok' b _ z2
            rw [e] at e1; cases e1
            exact e2
  cases hk : K.lookup a with
  | some o =>
    have e := KX a o hk
    rw [ha] at e
    cases e
    refine core (fun _=>none) (fun _=>.inl rfl) (.inr ⟨_,vs.toArray,_,hk,rfl,rfl,rfl,by rw [List.size_toArray,lenV]; exact hl,by simpa using rv⟩) (fun b u z=>by have z':(none:Option HO) = some u:=z; cases z') (fun b z=>absurd rfl z) fun z=>absurd rfl z
  | none =>
    refine core (fun b=>if b = a then some (.frz { cls:=.type "list",data:=.seq vs.toArray } (.lst (ns.map V.int))) else none) (fun b=>?_) (.inl (.inr ⟨{ cls:=.type "list",data:=.seq vs.toArray },if_pos rfl⟩)) (fun b u z=>?_) (fun b z=>?_) fun _=>hk
    · by_cases hb : b = a
      · exact .inr ⟨_, _, if_pos hb⟩
      · exact .inl (if_neg hb)
    · by_cases hb : b = a
      · have z' := (if_pos hb).symm.trans z
        cases z'
        subst hb
        exact ⟨ha,by rw [List.length_map]; exact hl,vs,_,rv,ha⟩
      · have z' := (if_neg hb).symm.trans z
        cases z'
    · by_cases hb : b = a
      · exact hb
      · exact absurd (if_neg hb) z
end L2
namespace L2
open PySem PySem.Spec PyProof.Rows
theorem walk_of {l:PySem.W.OpenLaw} {n k:Nat} {q:Program} {loose:List Str} {XP:(Str→Option Value)→Heap→Prop} {YP:World→Heap→Prop} {d:DefRec} {K:Params→PySem.W.Frag} {CX:World→CXT} {sp:World→Sp} {x:Str}
    (hn:l.most = some n) (hn2:n ≤ sizeLine) (hdf:d.params.defaults = []) (hr:Room k callerA)
    (hY:∀ (w:World) (h:Heap),YP w h→(K w.params).In h)
    (F:∀ (w:World) (mg:Str→Option Value) (fa:Addr) (h:Heap),(K w.params).In h→h.Ns mainGlobals mg→mg d.name = some (.ref fa) →
      ∃ fd:FuncData,(∀ (s:Shared) (u:Value),BindsTo s fd ⟨[u],[]⟩ [(x,u)]) ∧
        ∀ base:Heap,(K w.params).In base→base.Ns mainGlobals mg→FnOk l.prog w (K w.params) mg base (CX w) k fa fd [x] (sp w))
    (hsp:∀ (w:World) (H:Hp) (a:Addr) (ns:List Int),ns.length ≤ n→Only H→SqL (K w.params) H a (ns.map V.int)→sp w [.ref a] H (fun v _=>v = .bl true) fun _ _ _=>False)
    (hCX:∀ (w:World) (H:Hp) (s:Shared) (e:Value) (s':Shared),CX w [] H s (fun _ _ _=>False) e s'→False) :
    PySem.W.WalkO q loose XP YP l.row.toRowW d [] (fun f vs=>PySem.call f vs):=by
  refine Att.attach_call hn hdf fun w s₀ s₁ mg mb fa o pm cd doc a vs ns G Y ho hd hcd hmg hobj hints hlen hg=>?_
  have KX := hY w _ Y
  obtain ⟨fd, hb, hF⟩ := F w mg fa _ KX G.T.g hmg
  exact law_call KX G.T.g G.T.b G.T.builtins G.T.nolimit hg hobj hints (Nat.le_trans hlen hn2) hr hF hb (fun H hO hS=>hsp w H a ns hlen hO hS) fun H e s'=>hCX w H s₁ e s'
end L2
/- THE LAST THEOREM (shape; LID, My.* are yours):
   My.Adr: a structure of the addresses that your layer names (classes,functions); My.Txt K t: a structure (Prop) of the equations over K;
   My.txt_mk:{K} {implicit addresses ..} (e1:nsIn K mainGlobals "law" = some (some (.ref f))) (e2:K.lookup f = some ⟨oc,od,.func (fnOf "law" "law" params body scope dV kV doc pm an cdv ct),sl⟩) (e3:codeIn K cdv "law" = true) ..:∃ t,My.Txt K t
set_option maxRecDepth 100000 in
set_option maxHeartbeats 0 in
(the tactic k_is has no namespace: write k_is) -/
namespace L2
open PySem PySem.Spec PyProof.Rows
def inClass (s : Stmt) (j : Nat) : Stmt := match s with
  | .ClassDef _ _ _ body _ _ _ _ _ _ _=>body.getD j (.Pass ⟨0,0,0,0⟩)
  | _ => .Pass ⟨0, 0, 0, 0⟩
def defArgs (s : Stmt) : Arguments := match s with
  | .FunctionDef _ a _ _ _ _ _ _ _ _ => a
  | _=>{ posonlyargs:=[],args:=[],vararg:=none,kwonlyargs:=[],kw_defaults:=[],kwarg:=none,defaults:=[] }
def defBody (s : Stmt) : List Stmt := match s with
  | .FunctionDef _ _ b _ _ _ _ _ _ _ => b
  | _ => []
def defScope (s : Stmt) : Scope := match s with
  | .FunctionDef _ _ _ _ _ _ sc _ _ _ => sc
  | _=>{ kind:=.function,names:=[],isGenerator:=false,isCoroutine:=false }
abbrev E0 : XK := fun _ _ _ => False
structure Fun (K:PySem.W.Frag) (x qual:Str) (st:Stmt) (f:Addr) (fd:FuncData):Prop where
  ex:∃ (oc:Value) (od:Option Addr) (kV doc pm:Value) (an:Option Addr) (cdv ct:Value) (osl:Array (Option Value)),
    fd = PySem.W.fnOf x qual (defArgs st) (defBody st) (defScope st) .none kV doc pm an cdv ct∧K.lookup f = some ⟨oc,od,.func fd,osl⟩∧PySem.W.codeIn K cdv qual = true
  kp : PySem.W.keepIn K (.ref f) = true
section
variable {P:Program} {w:World} {K:PySem.W.Frag} {mg:Str→Option Value} {base:Heap}
theorem Fun.binds {x qual:Str} {st:Stmt} {f:Addr} {fd:FuncData} {ps:List Str} (F:Fun K x qual st f fd)
    (h:∀ (kV doc pm:Value) (an:Option Addr) (cdv ct:Value) (us:List Value),us.length = ps.length→bindArgs (PySem.W.fnOf x qual (defArgs st) (defBody st) (defScope st) .none kV doc pm an cdv ct) ⟨us,[]⟩ = pure (ps.zip us)):Binds K fd ps []:=by
  obtain ⟨oc,od,kV,doc,pm,an,cdv,ct,osl,rfl,lk,hcd⟩:=F.ex
  exact .all (h kV doc pm an cdv ct)
theorem fun_mk {x qual:Str} {st:Stmt} {f:Addr} {oc:Value} {od an:Option Addr} {osl:Array (Option Value)} {kV doc pm cdv ct:Value} (l:K.lookup f = some ⟨oc,od,.func (PySem.W.fnOf x qual (defArgs st) (defBody st) (defScope st) .none kV doc pm an cdv ct),osl⟩)
    (c:PySem.W.codeIn K cdv qual = true) (k:PySem.W.keepIn K (.ref f) = true):Fun K x qual st f (PySem.W.fnOf x qual (defArgs st) (defBody st) (defScope st) .none kV doc pm an cdv ct):=⟨⟨oc,od,kV,doc,pm,an,cdv,ct,osl,rfl,l,c⟩,k⟩
end
section
variable {X : Cx}
end
def Same (H H':Hp):Prop:=∀ b o,H b = some o→H' b = some o
theorem Same.refl (H : Hp) : Same H H := fun _ _ h => h
theorem Same.trans {H H1 H2:Hp} (a:Same H H1) (b:Same H1 H2):Same H H2:=fun c o h=>b c o (a c o h)
theorem Same.seq {K:PySem.W.Frag} {H H':Hp} {a:Addr} {xs:List V} (e:Same H H') (h:SqL K H a xs):SqL K H' a xs:=by
  rcases h with (h | ⟨o, h⟩) | h
  · exact .inl (.inl (e _ _ h))
  · exact .inl (.inr ⟨o, e _ _ h⟩)
  · exact .inr h
end L2
section
set_option Elab.async false
set_option linter.all false
set_option maxRecDepth 100000
namespace L2
open PySem PySem.Spec PyProof.Rows
section
variable {κ : Type} [DecidableEq κ]
def valV (kvs:List (κ × V)) (k:κ):Option V:=(kvs.find? fun kv=>decide (kv.1 = k)).map (·.2)
def putK (kvs:List (κ × V)) (k:κ) (v:V):List (κ × V) :=
  if (kvs.any fun kv=>decide (kv.1 = k)) = true then kvs.map (fun kv=>if kv.1 = k then (kv.1,v) else kv) else kvs ++ [(k,v)]
theorem valV_pos {p:κ × V} {r:List (κ × V)} {k:κ} (e:p.1 = k):valV (p :: r) k = some p.2:=by simp [valV,List.find?_cons,e]
theorem valV_neg {p:κ × V} {r:List (κ × V)} {k:κ} (e:¬ p.1 = k):valV (p :: r) k = valV r k:=by simp [valV,List.find?_cons,e]
theorem valV_any (k:κ):∀ kvs:List (κ × V),(kvs.any fun kv=>decide (kv.1 = k)) = (valV kvs k).isSome
  | [] => rfl
  | p :: r => by
    rw [List.any_cons]
    by_cases e : p.1 = k
    · simp only [valV_pos e,decide_eq_true e,Bool.true_or,Option.isSome_some]
    · rw [valV_neg e,decide_eq_false e,Bool.false_or]; exact valV_any k r
theorem length_putK (kvs:List (κ × V)) (k:κ) (v:V):(putK kvs k v).length ≤ kvs.length + 1:=by
  unfold putK
  split
  · rw [List.length_map]; omega
  · rw [List.length_append,List.length_cons,List.length_nil]; omega
theorem putK_new {kvs:List (κ × V)} {k:κ} (v:V) (h:valV kvs k = none):putK kvs k v = kvs ++ [(k,v)]:=by
  unfold putK
  rw [valV_any, h]
  exact if_neg (by decide)
theorem RelO.isSome_eq {o:Option V} {u:Option Value} (r:RelO o u):o.isSome = u.isSome:=by
  cases o with
  | none => cases u with
    | none => rfl
    | some _ => exact (show False from r).elim
  | some _ => cases u with
    | none => exact (show False from r).elim
    | some _ => rfl
theorem KV.val {kvs:List (κ × V)} {vs:List (κ × Value)} (r:KV kvs vs) (k:κ):RelO (valV kvs k) (valueAt vs k):=by
  unfold KV at r
  induction r with
  | nil => exact True.intro
  | @cons p q ps qs h t ih =>
    obtain ⟨h1, h2⟩ := h
    by_cases e : p.1 = k
    · have e' : q.1 = k := h1.symm.trans e
      have b:valueAt (q :: qs) k = some q.2:=by simp [valueAt,List.find?_cons,e']
      rw [valV_pos e, b]; exact h2
    · have e' : ¬ q.1 = k := fun z => e (h1.trans z)
      have b:valueAt (q :: qs) k = valueAt qs k:=by simp [valueAt,List.find?_cons,e']
      rw [valV_neg e, b]; exact ih
theorem KV.any {kvs:List (κ × V)} {vs:List (κ × Value)} (r:KV kvs vs) (k:κ):(kvs.any fun kv=>decide (kv.1 = k)) = vs.any fun kv=>decide (kv.1 = k):=by
  unfold KV at r
  induction r with
  | nil => rfl
  | cons h t ih=>rw [List.any_cons,List.any_cons,ih,h.1]
theorem KV.repl {kvs:List (κ × V)} {vs:List (κ × Value)} (r:KV kvs vs) (k:κ) {y:V} {u:Value} (ry:RelV y u) :
    KV (kvs.map fun kv=>if kv.1 = k then (kv.1,y) else kv) (vs.map fun kv=>if kv.1 = k then (kv.1,u) else kv):=by
  unfold KV at r ⊢
  induction r with
  | nil => exact .nil
  | @cons p q ps qs h t ih =>
    rw [List.map_cons, List.map_cons]
    refine .cons ?_ ih
    obtain ⟨h1, h2⟩ := h
    by_cases e : p.1 = k
    · rw [if_pos e,if_pos (h1.symm.trans e)]; exact ⟨h1,ry⟩
    · rw [if_neg e,if_neg (fun z=>e (h1.trans z))]; exact ⟨h1,h2⟩
theorem KV.put {kvs:List (κ × V)} {vs:List (κ × Value)} (r:KV kvs vs) (k:κ) {y:V} {u:Value} (ry:RelV y u):KV (putK kvs k y) (stored vs k u):=by
  unfold putK stored
  rw [r.any k]
  by_cases e : (vs.any fun kv => decide (kv.1 = k)) = true
  · rw [if_pos e, if_pos e]; exact r.repl k ry
  · rw [if_neg e, if_neg e]; exact Paired.snoc r ⟨rfl, ry⟩
theorem KV.keys {kvs:List (κ × V)} {vs:List (κ × Value)} (r:KV kvs vs):kvs.map (·.1) = vs.map (·.1):=by
  unfold KV at r
  induction r with
  | nil => rfl
  | cons h t ih=>rw [List.map_cons,List.map_cons,ih,h.1]
theorem KV.length {kvs:List (κ × V)} {vs:List (κ × Value)} (r:KV kvs vs):kvs.length = vs.length:=Paired.length r
end
theorem kV_is {P:Program} {w:World} {k:Key} {u:Value} (r:RelV (kV k) u):(mixKind P w).is k u = true:=by
  cases k with
  | inl i=>obtain ⟨t,e⟩:=(show ∃ t,u = Value.int i t from r); subst e; exact mixKind_int P w i t
  | inr x=>obtain ⟨t,e⟩:=(show ∃ t,u = Value.str x t from r); subst e; exact mixKind_str P w x t
theorem items_are {P:Program} {w:World}:∀ {ks:List Key} {us:List Value},Vals (ks.map kV) us→ItemsAre (mixKind P w) ks us
  | [],_,r=>by rw [List.map_nil] at r; cases r; exact .nil
  | k :: ks, _, r => by
    rw [List.map_cons] at r
    cases r with
    | cons h t => exact .cons (kV_is h) (items_are t)
abbrev KT (H:Hp):List (List Key × V)→List (List Key × Addr × Value)→Prop:=Paired fun p q=>p.1 = q.1∧H q.2.1 = some (.tup (p.1.map kV))∧RelV p.2 q.2.2
theorem KT.val {H:Hp} {kvs:List (List Key × V)} {xs:List (List Key × Addr × Value)} (r:KT H kvs xs) (k:List Key):RelO (valV kvs k) ((atKey xs k).map (·.2)):=by
  induction r with
  | nil => exact True.intro
  | @cons p q ps qs h t ih =>
    obtain ⟨h1, _, h2⟩ := h
    by_cases e : p.1 = k
    · have e' : q.1 = k := h1.symm.trans e
      have b:atKey (q :: qs) k = some q.2:=by simp [atKey,List.find?_cons,e']
      rw [valV_pos e, b]; exact h2
    · have e' : ¬ q.1 = k := fun z => e (h1.trans z)
      have b:atKey (q :: qs) k = atKey qs k:=by simp [atKey,List.find?_cons,e']
      rw [valV_neg e, b]; exact ih
theorem KT.repl {H:Hp} {kvs:List (List Key × V)} {xs:List (List Key × Addr × Value)} (r:KT H kvs xs) (k:List Key) {y:V} {u:Value} (ry:RelV y u) :
    KT H (kvs.map fun kv=>if kv.1 = k then (kv.1,y) else kv) (xs.map (putAt k u)):=by
  induction r with
  | nil => exact .nil
  | @cons p q ps qs h t ih =>
    rw [List.map_cons, List.map_cons]
    refine .cons ?_ ih
    obtain ⟨h1, h2, h3⟩ := h
    unfold putAt
    by_cases e : p.1 = k
    · rw [if_pos e,if_pos (h1.symm.trans e)]; exact ⟨h1,h2,ry⟩
    · rw [if_neg e,if_neg (fun z=>e (h1.trans z))]; exact ⟨h1,h2,h3⟩
theorem KT.put {H:Hp} {kvs:List (List Key × V)} {xs:List (List Key × Addr × Value)} (r:KT H kvs xs) (k:List Key) {b:Addr} {y:V} {u:Value} (hb:H b = some (.tup (k.map kV))) (ry:RelV y u) :
    KT H (putK kvs k y) (storedH xs k b u) := by
  have e:(kvs.any fun kv=>decide (kv.1 = k)) = (atKey xs k).isSome:=by
    rw [valV_any, (r.val k).isSome_eq, Option.isSome_map]
  unfold putK storedH
  rw [e]
  by_cases q : (atKey xs k).isSome = true
  · rw [if_pos q, if_pos q]; exact r.repl k ry
  · rw [if_neg q,if_neg q]; exact Paired.snoc r ⟨rfl,hb,ry⟩
theorem KT.keeps {H H':Hp} {kvs:List (List Key × V)} {xs:List (List Key × Addr × Value)} (r:KT H kvs xs) (ht:∀ b ys,H b = some (.tup ys)→H' b = some (.tup ys)):KT H' kvs xs :=
  Paired.mapP r fun _ _ z => ⟨z.1, ht _ _ z.2.1, z.2.2⟩
section
variable {P:Program} {w:World} {H:Hp} {h:Heap} {a:Addr}
theorem rd_of {u:HO} (ok:HOk P w H h) (e:Rd H a u):ObjOk P w H h a u:=e.ok ok
theorem dk_rd {kvs:List (Key × V)} (ok:HOk P w H h) (e:Rd H a (.dK kvs)):kvs.length ≤ sizeLine∧(a == sysModules) = false∧∃ vs,KV kvs vs∧h.DictOf (mixKind P w) a vs :=
  show ObjOk P w H h a (.dK kvs) from rd_of ok e
theorem dk_of {kvs:List (Key × V)} (ok:HOk P w H h) (e:H a = some (.dK kvs)):kvs.length ≤ sizeLine∧(a == sysModules) = false∧∃ vs,KV kvs vs∧h.DictOf (mixKind P w) a vs:=dk_rd ok (.inl e)
theorem key_of {ks:List Key} (ok:HOk P w H h) (e:H a = some (.tup (ks.map kV))):(tupleKind (mixKind P w)).is h ks a:=by
  obtain ⟨_,its,r,o,h1,h2,n,h3⟩:=(show ObjOk P w H h a (.tup (ks.map kV)) from ok a _ e)
  exact ⟨o,its.toArray,n,h1,h2,h3,by simpa using items_are r⟩
theorem dt_rd {kvs:List (List Key × V)} (ok:HOk P w H h) (e:Rd H a (.dT kvs)):kvs.length ≤ sizeLine∧(a == sysModules) = false ∧
    ∃ xs,KT H kvs xs∧h.DictOfH (tupleKind (mixKind P w)) a xs:=by
  obtain ⟨z,y,xs,r,o,es,ep,h1,h2,h3,h4,h5⟩:=(show ObjOk P w H h a (.dT kvs) from rd_of ok e)
  refine ⟨z,y,xs,r,o,es,ep,h1,h2,h3,h4,fun x hx=>?_,h5⟩
  have all:∀ {l:List (List Key × V)} {m:List (List Key × Addr × Value)},KT H l m→∀ x ∈ m,(tupleKind (mixKind P w)).is h x.1 x.2.1:=by
    intro l m q
    induction q with
    | nil => intro x hx; exact nomatch hx
    | @cons p q ps qs hq t ih =>
      intro x hx
      rcases List.mem_cons.mp hx with e | hx
      · subst e
        exact key_of ok (by rw [← hq.1]; exact hq.2.1)
      · exact ih x hx
  exact all r x hx
theorem dt_of {kvs:List (List Key × V)} (ok:HOk P w H h) (e:H a = some (.dT kvs)):kvs.length ≤ sizeLine∧(a == sysModules) = false ∧
    ∃ xs,KT H kvs xs∧h.DictOfH (tupleKind (mixKind P w)) a xs:=dt_rd ok (.inl e)
end
def DGet (H:Hp) (a:Addr) (y:V) (r:Option V):Prop :=
  (∃ kvs k,Rd H a (.dK kvs)∧y = kV k∧r = valV kvs k) ∨ ∃ kvs k b,Rd H a (.dT kvs)∧y = .ref b∧H b = some (.tup (k.map kV))∧r = valV kvs k
def DPut (H : Hp) (a : Addr) (y v : V) (H' : Hp) : Prop :=
  (∃ kvs k,H a = some (.dK kvs)∧y = kV k∧kvs.length < sizeLine∧H' = upd H a (.dK (putK kvs k v))) ∨
  ∃ kvs k b,H a = some (.dT kvs)∧y = .ref b∧H b = some (.tup (k.map kV))∧kvs.length < sizeLine∧H' = upd H a (.dT (putK kvs k v))
theorem DGet.k {H:Hp} {a:Addr} {kvs:List (Key × V)} {k:Key} (e:H a = some (.dK kvs)):DGet H a (kV k) (valV kvs k):=.inl ⟨kvs,k,.inl e,rfl,rfl⟩
theorem DPut.k {H:Hp} {a:Addr} {kvs:List (Key × V)} {k:Key} {v:V} (e:H a = some (.dK kvs)) (hl:kvs.length < sizeLine):DPut H a (kV k) v (upd H a (.dK (putK kvs k v))):=.inl ⟨kvs,k,e,rfl,hl,rfl⟩
section
variable {X:Cx} {pins:List (Addr × Obj)} {σ:St} {H:Hp} {s:Shared} {a:Addr} {y v:V} {u r:Value} {o:Option V} {A:Around} {E:Value→Shared→Prop}
theorem Inv.big (I:Inv X pins σ H s):sysModules < s.heap.objs.size:=by
  have h:mainGlobals < s.heap.objs.size:=(I.mod.glob.keeps I.bk).lt
  exact Nat.lt_trans (by decide) h
theorem d_getItem {Q:Value→Shared→Prop} (hu:A.units + 1 < cLine) (I:Inv X pins σ H s) (g:DGet H a y (some v)) (ry:RelV y u) (h:∀ w' s',Inv X pins σ H s'→RelV v w'→Q w' s') :
    wpAny (model X.prog X.w) A (getItem (.ref a) u) Q E s:=by
  rcases g with ⟨kvs,k,e,ey,l⟩ | ⟨kvs,k,b,e,ey,eb,l⟩
  · subst ey
    obtain ⟨z, hd, vs, rel, dd⟩ := dk_rd I.hok e
    obtain ⟨w',hw,rw'⟩:=RelO.some_of (v:=v) (o:=valueAt vs k) (by rw [l]; exact rel.val k)
    exact wpAny_getItem_of (kV_is ry) dd.mapOf hw (h w' _ (I.tok _) rw')
  · subst ey
    cases (show u = Value.ref b from ry)
    obtain ⟨z, hd, xs, rel, dd⟩ := dt_rd I.hok e
    obtain ⟨w',hw,rw'⟩:=RelO.some_of (v:=v) (o:=(atKey xs k).map (·.2)) (by rw [l]; exact rel.val k)
    obtain ⟨p, hp, hp2⟩ := Option.map_eq_some_iff.mp hw
    refine wpAny_getItem_heap (tupleKind_room_in1 hu) (key_of I.hok eb) dd hp ?_
    rw [hp2]
    exact h w' _ (I.tok _) rw'
theorem d_notIn {Q:Value→Shared→Prop} (hu:A.units + 1 < cLine) (I:Inv X pins σ H s) (g:DGet H a y o) (ry:RelV y u) (h:∀ s',Inv X pins σ H s'→Q (.bool (!o.isSome)) s') :
    wpAny (model X.prog X.w) A (compareOp .NotIn u (.ref a)) Q E s:=by
  rcases g with ⟨kvs,k,e,ey,l⟩ | ⟨kvs,k,b,e,ey,eb,l⟩
  · subst ey
    obtain ⟨z, hd, vs, rel, dd⟩ := dk_rd I.hok e
    refine wpAny_notIn_of (kV_is ry) hd dd.mapOf ?_
    rw [← (rel.val k).isSome_eq, ← l]
    exact h _ (I.tok _)
  · subst ey
    cases (show u = Value.ref b from ry)
    obtain ⟨z, hd, xs, rel, dd⟩ := dt_rd I.hok e
    refine wpAny_notIn_heap (tupleKind_room_in1 hu) (key_of I.hok eb) hd dd ?_
    have q := (rel.val k).isSome_eq
    rw [Option.isSome_map] at q
    rw [← q, ← l]
    exact h _ (I.tok _)
theorem d_write {h':Heap} {t':Nat} {ob:HO} (I:Inv X pins σ H s) (mu:Mut (H a)) (hs:Heap.SameBut a s.heap h') (he:∃ q,h'.get? a = some q) (new:ObjOk X.prog X.w (upd H a ob) h' a ob) :
    Inv X pins σ (upd H a ob) { s with heap:=h',toks:=t' } :=
  I.write (x:=a) (e:=a) mu (.inl rfl) (fun b q hb z=>(hs.2 b hb).trans z) he new
theorem dk_new {P:Program} {w:World} {H':Hp} {h':Heap} {kvs:List (Key × V)} {vs:List (Key × Value)} (z:kvs.length ≤ sizeLine) (hd:(a == sysModules) = false) (rel:KV kvs vs) (dd:h'.DictOf (mixKind P w) a vs) :
    ObjOk P w H' h' a (.dK kvs) := ⟨z, hd, vs, rel, dd⟩
theorem d_setItem {H':Hp} {Q:Unit→Shared→Prop} (hu:A.units + 1 < cLine) (I:Inv X pins σ H s) (g:DPut H a y v H') (ry:RelV y u) (rv:RelV v r) (h:∀ s',Inv X pins σ H' s'→Q () s') :
    wpAny (model X.prog X.w) A (setItem (.ref a) u r) Q E s:=by
  rcases g with ⟨kvs,k,e,ey,l,eH⟩ | ⟨kvs,k,b,e,ey,eb,l,eH⟩
  · subst ey eH
    obtain ⟨z, hd, vs, rel, dd⟩ := dk_of I.hok e
    have hz:vs.length ≤ sizeLine:=by rw [← rel.length]; exact z
    have hl:(putK kvs k v).length ≤ sizeLine:=by have:=length_putK kvs k v; omega
    refine wpAny_setItem_pairs (hsz:=hz) (kV_is ry) dd fun h' dd' hs=>h _ ?_
    have he:∃ q,h'.get? a = some q:=let ⟨q,_,_,hq,_⟩:=dd'; ⟨q,hq⟩
    exact d_write I (by rw [e]; exact True.intro) hs he (dk_new hl hd (rel.put k rv) dd')
  · subst ey eH
    cases (show u = Value.ref b from ry)
    obtain ⟨z, hd, xs, rel, dd⟩ := dt_of I.hok e
    have hz:xs.length ≤ sizeLine:=by rw [← Paired.length rel]; exact z
    have hl:(putK kvs k v).length ≤ sizeLine:=by have:=length_putK kvs k v; omega
    refine wpAny_setItem_heap (hsz:=hz) (tupleKind_room_in1 hu) (key_of I.hok eb) dd fun h' dd' hs=>h _ ?_
    obtain ⟨q, es, ep, hq, h2, h3, h4, _, h5⟩ := dd'
    refine d_write I (by rw [e]; exact True.intro) hs ⟨q,hq⟩ ⟨hl,hd,_,(rel.put k eb rv).keeps fun c ys ec=>?_,q,es,ep,hq,h2,h3,h4,h5⟩
    rw [upd_ne (ne_of ec e (fun z => nomatch z))]
    exact ec
end
section
variable {X:Cx} {pins:List (Addr × Obj)} {σ:St} {H:Hp} {s:Shared} {a:Addr} {kvs:List (Key × V)} {k:Key} {u:Value} {A:Around} {E:Value→Shared→Prop}
end
def NoSl (i:Expr):Prop:=∀ ov iv,subscripted i false ov iv = operate [ov,iv] (getItem ov iv)
theorem subD_of {prog:Program} {w:World} {A:Around} {E:Value→Shared→Prop} {s:Shared} {env:Env} {value slice:Expr} {pos:Pos} {T id:String} {Q:Value→Shared→Prop}
    (hl:typeLookup (.type T) "__getitem__" = pure (some (.builtin id))) (hs:NoSl slice)
    (h:wpAny (model prog w) A (eval value env) (fun o s₁=>wpAny (model prog w) A (eval slice env) (fun i s₂=>s₂.TypeIs o T∧wpAny (model prog w) A (getItem o i) Q E s₂) E s₁) E s) :
    wpAny (model prog w) A (eval (.Subscript value slice pos) env) Q E s:=by
  refine Subscript_ (wpAny_mono h (fun o s₁ h₁=>wpAny_mono h₁ (fun i s₂ h₂=>?_) fun _ _ x=>x) fun _ _ x=>x)
  obtain ⟨hT, h₂⟩ := h₂
  unfold subscriptTail
  refine wpAny_bind ?_
  rw [getitemInPython_of_ne hT.not_modules]
  refine wpAny_bind (wpAny_specialOf hT hl ?_)
  have fin:wpAny (model prog w) A (subscripted slice false o i) (fun r s₃=>wpAny (model prog w) A (letTemporaryGo value o r >>= fun _=>pure r) Q E s₃) E s₂:=by
    rw [hs o i]
    exact wpAny_operating (wpAny_mono h₂ (fun r s₃ h₃=>wpAny_bind (wpAny_letTemporaryGo (wpAny_pure h₃))) fun _ _ x=>x)
  first
    | exact wpAny_pure (wpAny_bind fin)
    | exact wpAny_bind (wpAny_pure (wpAny_bind fin))
    | exact wpAny_bind fin
theorem dict_typeIs {X:Cx} {pins:List (Addr × Obj)} {σ:St} {H:Hp} {s:Shared} {a:Addr} {y:V} {o:Option V} (I:Inv X pins σ H s) (g:DGet H a y o):s.TypeIs (.ref a) "dict":=by
  rcases g with ⟨kvs, k, e, _, _⟩ | ⟨kvs, k, b, e, _, _, _⟩
  · obtain ⟨_, _, vs, _, dd⟩ := dk_rd I.hok e
    exact dd.typeIs
  · obtain ⟨_, _, xs, _, dd⟩ := dt_rd I.hok e
    exact dd.typeIs
def tDGet (td ty:TE):TE:=fun σ H Q=>td σ H fun x H1=>ty σ H1 fun y H2=>∃ a v,x = .ref a∧DGet H2 a y (some v)∧Q v H2
def tDNotIn (ty td:TE):TE:=fun σ H Q=>ty σ H fun y H1=>td σ H1 fun x H2=>∃ a o,x = .ref a∧DGet H2 a y o∧Q (.bl (!o.isSome)) H2
def sDPut (td ty tv:TE):TS:=fun D σ H=>tv σ H fun v H1=>td σ H1 fun x H2=>ty σ H2 fun y H3=>∃ a H4,x = .ref a∧DPut H3 a y v H4∧D.nx σ H4
section
variable {X:Cx} {o i e value:Expr} {pos pos' tpos:Pos} {td ty tv:TE}
theorem pe_dget (hu:X.A.units + 1 < cLine) (ho:PE X o td) (hi:PE X i ty) (hs:NoSl i):PE X (.Subscript o i pos) (tDGet td ty):=by
  intro pins s σ H Q I h
  refine subD_of PySem.F.slot_dict_getitem.lookup hs (thn (ho pins s σ H _ I h) fun u s1 ⟨x,H1,I1,rx,q1⟩=>thn (hi pins s1 σ H1 _ I1 q1) fun iv s2 ⟨y,H2,I2,ry,a,v,ex,g,q2⟩=>?_)
  subst ex
  obtain rfl : u = Value.ref a := rx
  exact ⟨dict_typeIs I2 g,d_getItem hu I2 g ry fun w' s3 I3 rw'=>⟨v,H2,I3,rw',q2⟩⟩
theorem pc_dnotin (hu:X.A.units + 1 < cLine) (hi:PE X i ty) (ho:PE X o td):PC X .NotIn i o (tDNotIn ty td):=by
  intro pins s σ H Q I h
  refine thn (hi pins s σ H _ I h) fun iv s1 ⟨y,H1,I1,ry,q1⟩=>thn (ho pins s1 σ H1 _ I1 q1) fun u s2 ⟨x,H2,I2,rx,a,ov,ex,g,q2⟩=>?_
  subst ex
  obtain rfl : u = Value.ref a := rx
  exact d_notIn hu I2 g ry fun s3 I3=>⟨.bl (!ov.isSome),H2,I3,rfl,q2⟩
theorem ps_dput (hu:X.A.units + 1 < cLine) (ho:PE X o td) (hi:PE X i ty) (hv:PE X value tv) (hs:swapsWith value (some (.Subscript o i pos')) pos.line X.env = pure false) :
    PS X (.Assign [.Subscript o i pos'] value pos) (sDPut td ty tv):=by
  intro pins s σ H D I h
  refine wpAny_Assign_Subscript (thn (hv pins s σ H _ I h) fun r s1 ⟨v,H1,I1,rv,q1⟩=>thn (ho pins s1 σ H1 _ I1 q1) fun u s2 ⟨x,H2,I2,rx,q2⟩=>thn (hi pins s2 σ H2 _ I2 q2) fun iv s3 ⟨y,H3,I3,ry,a,H4,ex,g,q3⟩=>?_) hs
  subst ex
  obtain rfl : u = Value.ref a := rx
  exact d_setItem hu I3 g ry rv fun s4 I4 => ⟨σ, H4, I4, q3⟩
end
theorem dk_empty {P:Program} {w:World} {H:Hp} (h:Heap) (hb:sysModules < h.objs.size):ObjOk P w H (h.push { cls:=.type "dict",data:=.dict #[] }) h.objs.size (.dK []) :=
  ⟨Nat.zero_le _,beq_eq_false_iff_ne.mpr (Ne.symm (Nat.ne_of_lt hb)),[],.nil,Heap.DictOf.new h⟩
section
variable {X : Cx} {pos : Pos}
end
def tPairs:List (TE × TE)→St→Hp→(List (V × V)→Hp→Prop)→Prop
  | [], _, H, Q => Q [] H
  | (tk,tv) :: r,σ,H,Q=>tk σ H fun x H1=>tv σ H1 fun y H2=>tPairs r σ H2 fun ps H3=>Q ((x,y) :: ps) H3
abbrev VV:List (V × V)→List (Value × Value)→Prop:=Paired fun p q=>RelV p.1 q.1∧RelV p.2 q.2
def PPs (X:Cx) (pos:Pos) (keys:List (Option Expr)) (values:List Expr) (trs:List (TE × TE)):Prop :=
  ∀ (pins:List (Addr × Obj)) (s:Shared) (σ:St) (H:Hp) (Q:List (V × V)→Hp→Prop),Inv X pins σ H s→tPairs trs σ H Q →
    wpAny (model X.prog X.w) X.A (evalPairs (pairTrees keys values X.env pos)) (fun vs s'=>∃ ps H',Inv X pins σ H' s'∧VV ps vs∧Q ps H') X.xe s
theorem pps_nil {X:Cx} {pos:Pos}:PPs X pos [] [] []:=fun pins s σ H Q I h=>pairTrees_nil_walk ⟨[],H,I,.nil,h⟩
theorem pps_cons {X:Cx} {pos:Pos} {k v:Expr} {ks:List (Option Expr)} {vs:List Expr} {tk tv:TE} {trs:List (TE × TE)} (hk:PE X k tk) (hv:PE X v tv) (hr:PPs X pos ks vs trs) :
    PPs X pos (some k :: ks) (v :: vs) ((tk,tv) :: trs):=fun pins s σ H Q I h =>
  pairTrees_cons_walk (thn (hk pins s σ H _ I h) fun u s1 ⟨x,H1,I1,rx,q1⟩=>thn (hv pins s1 σ H1 _ I1 q1) fun w2 s2 ⟨y,H2,I2,ry,q2⟩ =>
    thn (hr pins s2 σ H2 _ I2 q2) fun ws s3 ⟨ps,H3,I3,rel,q3⟩=>⟨(x,y) :: ps,H3,I3,.cons ⟨rx,ry⟩ rel,q3⟩)
def mergeK (kvs more:List (Key × V)):List (Key × V):=more.foldl (fun acc kv=>putK acc kv.1 kv.2) kvs
theorem KV.merge:∀ {more:List (Key × V)} {rs:List (Key × Value)} {kvs:List (Key × V)} {vs:List (Key × Value)},KV more rs→KV kvs vs→KV (mergeK kvs more) (merged vs rs):=by
  intro more rs kvs vs r
  unfold KV at r
  induction r generalizing kvs vs with
  | nil => intro q; exact q
  | @cons p q ps qs h t ih =>
    intro r0
    have e : KV (putK kvs p.1 p.2) (stored vs q.1 q.2) := by
      have := r0.put p.1 h.2
      rw [← h.1]; exact this
    exact ih e
theorem length_mergeK:∀ (more kvs:List (Key × V)),(mergeK kvs more).length ≤ kvs.length + more.length
  | [], kvs => by show kvs.length ≤ kvs.length + 0; omega
  | p :: r, kvs => by
    have h1 := length_mergeK r (putK kvs p.1 p.2)
    have h2 := length_putK kvs p.1 p.2
    show (mergeK (putK kvs p.1 p.2) r).length ≤ _
    rw [List.length_cons]; omega
theorem carries_of {P:Program} {w:World}:∀ {kvs:List (Key × V)} {ws:List (Value × Value)},VV (kvs.map fun kv=>(kV kv.1,kv.2)) ws→∃ rs,Carries (mixKind P w) ws rs∧KV kvs rs
  | [],_,r=>by rw [List.map_nil] at r; cases r; exact ⟨[],True.intro,.nil⟩
  | p :: kvs, _, r => by
    rw [List.map_cons] at r
    cases r with
    | @cons a b as bs h t =>
      obtain ⟨rs, c, q⟩ := carries_of (P := P) (w := w) t
      obtain ⟨b1, b2⟩ := b
      exact ⟨(p.1,b2) :: rs,⟨kV_is h.1,rfl,c⟩,.cons ⟨rfl,h.2⟩ q⟩
def tDisp (trs:List (TE × TE)):TE:=fun σ H Q=>∀ p,H p = none→tPairs trs σ (upd H p (.dK [])) fun ps H2=>H2 p = some (.dK [])∧∃ kvs:List (Key × V),ps = kvs.map (fun kv=>(kV kv.1,kv.2))∧kvs.length ≤ 15∧Q (.ref p) (upd H2 p (.dK (mergeK [] kvs)))
theorem pe_disp {X:Cx} {pos:Pos} {keys:List (Option Expr)} {values:List Expr} {trs:List (TE × TE)} (h:PPs X pos keys values trs) (hall:keys.all (·.isSome) = true) (hl:keys.length = values.length) (h0:keys ≠ [])
    (h15:keys.length ≤ 15):PE X (.Dict keys values pos) (tDisp trs):=by
  intro pins s σ H Q I q
  have hn := I.hok.fresh (Nat.le_refl s.heap.objs.size)
  have I1:=I.laid (a:=s.heap.objs.size) (o:=.dK []) (h':=s.heap.push { cls:=.type "dict",data:=.dict #[] }) (t':=s.toks) (fun _ _ q=>Heap.get?_push_of_some _ q) (Nat.le_refl _) (dk_empty s.heap I.big)
  refine wpAny_Dict_walk (knd:=mixKind X.prog X.w) hall hl h0 h15 (thn (h pins _ σ _ _ I1 (q _ hn)) fun ws s2 ⟨ps,H2,I2,rel,e,kvs,ep,lk,q2⟩=>?_)
  subst ep
  obtain ⟨rs,c,rk⟩:=carries_of (P:=X.prog) (w:=X.w) rel
  obtain ⟨z, hd, vs0, r0, dd⟩ := dk_of I2.hok e
  cases r0
  refine ⟨rs,c,dd,fun h' dd' hs=>⟨.ref s.heap.objs.size,_,?_,rfl,q2⟩⟩
  have hz : (mergeK [] kvs).length ≤ sizeLine := by
    have h1 := length_mergeK kvs []
    rw [List.length_nil] at h1
    rw [sizeLine_eq]; omega
  have he:∃ q,h'.get? s.heap.objs.size = some q:=let ⟨q,_,_,hq,_⟩:=dd'; ⟨q,hq⟩
  exact d_write I2 (by rw [e]; exact True.intro) hs he (dk_new hz hd (rk.merge .nil) dd')
structure M1 (X:Cx) (o:Expr) (m:Str) (apos:Pos) (e:Expr) (cpos:Pos):Prop where
  base:attributeBase o m X.env (eval o X.env) = eval o X.env
  few:((backTo cpos (starEach [e] X.env)).all (fun x=>!x.1) && (backToKw cpos (keywordEach [] X.env)).all (fun x=>x.1.isSome)
    && decide (([e]:List Expr).length + ([]:List Keyword).length + (if ([]:List Keyword).isEmpty then 0 else 1) < 30)) = true
  line : (apos.endLine == cpos.line) = true
  trees:backTo cpos (starEach [e] X.env) = [(false,eval e X.env)]
structure M2 (X:Cx) (o:Expr) (m:Str) (apos:Pos) (e f:Expr) (cpos:Pos):Prop where
  base:attributeBase o m X.env (eval o X.env) = eval o X.env
  few:((backTo cpos (starEach [e,f] X.env)).all (fun x=>!x.1) && (backToKw cpos (keywordEach [] X.env)).all (fun x=>x.1.isSome)
    && decide (([e,f]:List Expr).length + ([]:List Keyword).length + (if ([]:List Keyword).isEmpty then 0 else 1) < 30)) = true
  line : (apos.endLine == cpos.line) = true
  trees:backTo cpos (starEach [e,f] X.env) = [(false,eval e X.env),(false,eval f X.env)]
section
variable {X:Cx} {pins:List (Addr × Obj)} {σ:St} {H:Hp} {s:Shared} {a:Addr} {y d:V} {u r:Value} {o:Option V} {A:Around} {E:Value→Shared→Prop}
end
section
variable {X:Cx} {o e f:Expr} {apos cpos:Pos} {td ty tx:TE}
end
section
variable {X:Cx} {pins:List (Addr × Obj)} {σ:St} {H:Hp} {s:Shared} {a:Addr} {kvs:List (Key × V)} {A:Around} {E:Value→Shared→Prop}
end
section
variable {X:Cx} {pins:List (Addr × Obj)} {σ:St} {H:Hp} {s:Shared} {a:Addr} {y:V} {u:Value} {A:Around} {E:Value→Shared→Prop}
end
end L2
namespace L2
open PySem PySem.Spec PyProof.Rows
section
variable {X : Cx}
end
section
variable {κ : Type} [DecidableEq κ]
end
end L2
end
section
set_option Elab.async false
set_option linter.all false
set_option maxRecDepth 100000
set_option maxHeartbeats 4000000
set_option autoImplicit false
namespace Lw
open PySem PySem.Spec PyProof.Rows L2
def Mild {α : Type} : Sem α → Prop
  | .pure _ => True
  | .raise _ => True
  | .unsupported _ => True
  | .finish _ => True
  | .rule _ k => Mild (k ())
  | .at _ k => Mild (k ())
  | .load _ _ k => ∀ o, Mild (k o)
  | .update _ _ f k=>(∀ o,(f o).dict = o.dict∧(f o).isFreed = o.isFreed)∧Mild (k ())
  | .alloc _ k => ∀ a, Mild (k a)
  | .stack k => ∀ l, Mild (k l)
  | _ => False
def DctAt (e:Addr) (d:Option Addr) (h:Heap):Prop:=∃ o,h.get? e = some o∧o.dict = d
theorem mild_wp {α:Type} {M:Model} {Γ:PySem.Ctx} {e:Addr} {d:Option Addr} {t:Sem α}:∀ {Q:α→Pos→Shared→Prop} {E:Value→Pos→Shared→Prop} {p:Pos} {s:Shared},Mild t→Sem.wp M Γ t Q E p s→DctAt e d s.heap →
    Sem.wp M Γ t (fun a p' s'=>Q a p' s'∧DctAt e d s'.heap) (fun v p' s'=>E v p' s'∧DctAt e d s'.heap) p s:=by
  induction t with
  | pure a => intro Q E p s _ h D; exact ⟨h, D⟩
  | raise v => intro Q E p s _ h D; exact ⟨h, D⟩
  | unsupported _ => intro Q E p s _ h D; exact h.elim
  | finish _ => intro Q E p s _ h D; exact h.elim
  | rule _ k ih => intro Q E p s m h D; exact ih () m h D
  | «at» _ k ih => intro Q E p s m h D; exact ih () m h D
  | load a _ k ih =>
    intro Q E p s m h D
    obtain ⟨o, ho, h⟩ := h
    exact ⟨o, ho, ih o (m o) h D⟩
  | update a _ f k ih =>
    intro Q E p s m h D
    obtain ⟨ha, h⟩ := h
    refine ⟨ha, ih () m.2 h ?_⟩
    obtain ⟨o, ho, hd⟩ := D
    show DctAt e d (s.heap.update a f)
    by_cases q : a = e
    · subst q
      have hf:o.isFreed = false:=(Heap.get?_some_iff.mp ho).2
      exact ⟨_,Heap.get?_update_self f ho ((m.1 o).2.trans hf),(m.1 o).1.trans hd⟩
    · exact ⟨o, (Heap.get?_update_other _ f q).trans ho, hd⟩
  | alloc o k ih =>
    intro Q E p s m h D
    refine ih _ (m _) h ?_
    obtain ⟨o', ho, hd⟩ := D
    exact ⟨o', Heap.get?_push_of_some _ ho, hd⟩
  | stack k ih => intro Q E p s m h D; exact ih _ (m _) h D
  | loadIfAlive _ _ _ | point _ _ _ | register _ _ _ | fresh _ _ | ask _ _ | choose _ _ _ _ | os _ _ _ _ | call _ _ _ _ _ _ | handled _ _ _ | newGen _ _ _ | genState _ _ _ | resume _ _ _ _ _ | yield _ _ _ _ _ | fork _ _ _ | thread _ _ | await _ _ _ _ _ _=>intro Q E p s m; exact m.elim
theorem mild_any {α:Type} {M:Model} {A:Around} {e:Addr} {d:Option Addr} {t:Sem α} {Q:α→Shared→Prop} {E:Value→Shared→Prop} {s:Shared} (m:Mild t) (D:DctAt e d s.heap) (h:wpAny M A t Q E s) :
    wpAny M A t (fun a s'=>Q a s'∧DctAt e d s'.heap) E s:=fun Γ p hΓ =>
  Sem.wp_mono M Γ t (fun _ _ _ x=>x) (fun _ _ _ x=>x.1) p s (mild_wp m (h Γ p hΓ) D)
theorem mild_bind {α β:Type} {m:Sem α} {f:α→Sem β} (h:Mild m) (k:∀ a,Mild (f a)):Mild (m >>= f):=by
  show Mild (m.bind f)
  induction m with
  | pure a => exact k a
  | raise v => exact trivial
  | unsupported _ => exact trivial
  | finish _ => exact trivial
  | rule _ g ih => exact ih () h
  | «at» _ g ih => exact ih () h
  | load a _ g ih => exact fun o => ih o (h o)
  | update a _ f g ih => exact ⟨h.1, ih () h.2⟩
  | alloc o g ih => exact fun a => ih a (h a)
  | stack g ih => exact fun l => ih l (h l)
  | loadIfAlive _ _ _ | point _ _ _ | register _ _ _ | fresh _ _ | ask _ _ | choose _ _ _ _ | os _ _ _ _ | call _ _ _ _ _ _ | handled _ _ _ | newGen _ _ _ | genState _ _ _ | resume _ _ _ _ _ | yield _ _ _ _ _ | fork _ _ _ | thread _ _ | await _ _ _ _ _ _=>exact h.elim
theorem mild_load {a:Addr}:Mild (load a):=fun _=>trivial
theorem mild_stack : Mild stack := fun _ => trivial
theorem mild_pure {α:Type} {a:α}:Mild (pure a:Sem α):=trivial
theorem mild_uns {α:Type} {w:String}:Mild (unsupported w:Sem α):=trivial
theorem mild_mapF {a:Addr} {g:Array Value→Array Value}:Mild (update a (Obj.mapFields g)):=⟨fun o=>by
  obtain ⟨c, d, dt, sl⟩ := o
  cases dt <;> exact ⟨rfl, rfl⟩, trivial⟩
theorem mild_field {v:Value} {i:Nat}:Mild (field v i):=by
  unfold field fieldsOf
  refine mild_bind ?_ fun vs => ?_
  · cases v <;> first | exact mild_uns | skip
    refine mild_bind mild_load fun o => ?_
    cases o.data <;> first | exact mild_pure | exact mild_uns
  · cases vs[i]? <;> first | exact mild_pure | exact mild_uns
theorem mild_setField {v x:Value} {i:Nat}:Mild (setField v i x):=by
  unfold setField
  cases v <;> first | exact mild_uns | skip
  refine mild_bind mild_load fun o => ?_
  cases o.data <;> first | exact mild_uns | skip
  dsimp only
  split
  · exact mild_mapF
  · exact mild_uns
theorem mild_setFlight {e:Value} {fr:Option Addr}:Mild (setFlight e fr):=by
  unfold setFlight
  refine mild_bind mild_field fun tb => ?_
  split
  · exact mild_setField
  · exact mild_pure
theorem mild_ready : ∀ {l : List Env}, Mild (readyFrames l)
  | [] => mild_pure
  | env :: outer => by
    unfold readyFrames
    cases env.frame with
    | none => exact mild_uns
    | some f =>
      refine mild_bind mild_load fun o => ?_
      split
      · exact mild_pure
      · refine mild_bind (m:=behindIsImport env outer) ?_ fun imp=>mild_bind (m:=keptBack env imp outer) ?_ fun back=>mild_bind ?_ fun _=>mild_ready
        · unfold behindIsImport
          split
          · exact mild_pure
          · split
            · exact mild_pure
            · exact mild_bind mild_field fun _ => mild_pure
        · cases outer with
          | cons c r => exact mild_pure
          | nil =>
            show Mild (if (env.scope.isGenerator || env.scope.isCoroutine) = true then _ else _)
            split
            · exact mild_pure
            · unfold underTheClaimsCaller
              refine mild_bind (mild_bind mild_stack fun _=>mild_pure) fun _=>?_
              exact mild_pure
        · exact ⟨fun o=>by obtain ⟨c,d,dt,sl⟩:=o; cases dt <;> exact ⟨rfl,rfl⟩,trivial⟩
theorem mild_frameOf {env:Env}:Mild (PySem.frameOf env):=by
  unfold PySem.frameOf frameEnvs
  refine mild_bind (mild_bind mild_stack fun _=>mild_pure) fun l=>mild_bind ?_ fun r=>?_
  · generalize List.dropWhile _ l = l'
    cases l' with
    | nil => exact mild_pure
    | cons x xs=>exact mild_bind mild_ready fun _=>mild_pure
  · cases r <;> first | exact mild_pure | exact mild_uns
theorem mild_entry {a b c d e:Value} {pl:List Value}:Mild (EntryCells.newEntry a b c d e pl):=by
  unfold EntryCells.newEntry newFields
  generalize [a, b, c, d, e] ++ _ = l
  unfold newObj newObjAsIs
  dsimp only
  split
  · exact mild_bind mild_uns fun _=>mild_bind (m:=alloc _) (fun _=>trivial) fun _=>mild_pure
  · exact mild_bind (m:=alloc _) (fun _=>trivial) fun _=>mild_pure
theorem mild_place {f:Addr} {b:Bool}:Mild (entryPlaceOf f b):=by
  unfold entryPlaceOf
  refine mild_bind mild_stack fun acts => ?_
  cases List.find? _ acts with
  | none => exact mild_pure
  | some x => exact mild_pure
theorem mild_note {e:Value} {env:Env}:Mild (noteFrame e env):=by
  unfold noteFrame
  cases env.frame with
  | none => exact mild_uns
  | some f =>
    have tl:∀ head:Value,Mild (do setField e 1 (← EntryCells.newEntry head (← PySem.frameOf env) .none (rawInt f) .none (← entryPlaceOf f (head != .none)))):=fun head =>
      mild_bind mild_frameOf fun _=>mild_bind mild_place fun _=>mild_bind mild_entry fun _=>mild_setField
    refine mild_bind mild_field fun head => ?_
    dsimp only
    split
    · refine mild_bind mild_field fun x => ?_
      split
      · exact mild_pure
      · exact mild_bind mild_setField fun _ => tl head
    · exact tl head
theorem mild_leaving {e:Value} {env:Env}:Mild (leaving env e):=mild_bind mild_note fun _=>mild_setFlight
end Lw
end
section
set_option Elab.async false
set_option linter.all false
set_option maxRecDepth 100000
set_option maxHeartbeats 4000000
namespace Lw
open PySem PySem.Spec PyProof.Rows L2
theorem obj_some {P:Program} {w:World} {H:Hp} {h:Heap} {a:Addr} {o:HO} (x:ObjOk P w H h a o):∃ u,h.get? a = some u:=by
  cases o with
  | lst xs => obtain ⟨_, _, _, _, e⟩ := x; exact ⟨_, e⟩
  | tup xs => obtain ⟨_, _, _, o, e, _⟩ := x; exact ⟨_, e⟩
  | dK kvs=>obtain ⟨_,_,_,_,o,_,_,e,_⟩:=x; exact ⟨_,e⟩
  | dT kvs=>obtain ⟨_,_,_,_,o,_,_,e,_⟩:=x; exact ⟨_,e⟩
  | set S n => obtain ⟨o, _, _, _, e, _⟩ := x; exact ⟨_, e⟩
  | ins C dx fs => obtain ⟨_, _, _, e, _⟩ := x; exact ⟨_, e⟩
  | own y => exact x
  | xd fs=>obtain ⟨_,⟨_,_,_,e,_⟩,_⟩:=x; exact ⟨_,e⟩
  | rng lo hi => obtain ⟨_, _, _, e⟩ := x; exact ⟨_, e⟩
  | frz ob u => exact ⟨_, x.1⟩
  | tbl ps => exact ⟨_, x⟩
  | met f y => exact ⟨_, x⟩
  | ext φ => exact x.2.1
structure Fly (P:Program) (w:World) (outer:List Env) (H:Hp) (s:Shared) (H':Hp) (a:Addr) (cls:Value) (d:Option Addr) (B:Heap) (a0:Value) (s':Shared):Prop where
  os : s'.os = s.os
  bare : AllBare s'.gens
  un : Un (frs outer) [] H H' s.heap s'.heap
  hok : HOk P w H' s'.heap
  fresh : s.heap.get? a = none
  free : H' a = none
  fly : Heap.FlyingW B outer a cls a0 s'.heap
  trk:∀ b o,H' b ≠ none→s'.heap.get? b = some o→B.get? b = some o
  old:∀ b o,s.heap.get? b = some o→H b = none→b ∉ frs outer→B.get? b = some o
  any:∀ b o,s.heap.get? b = some o→b ∉ frs outer→∃ o',B.get? b = some o'
  dct : DctAt a d s'.heap
section
variable {P:Program} {w:World} {outer:List Env} {H H':Hp} {s s':Shared} {a:Addr} {cls a0:Value} {d:Option Addr} {B h5:Heap}
theorem Fly.slots (F:Fly P w outer H s H' a cls d B a0 s') (U:s'.heap.UpToSlots h5) {b:Addr} {o:Obj} (hb:b ∈ frs outer) (e:s'.heap.get? b = some o):∃ sl,h5.get? b = some { o with slots:=sl }:=by
  obtain ⟨_, o', e', nf⟩ := F.fly.2.2.1.mem hb
  rw [e] at e'
  cases e'
  exact U b o e nf
theorem Fly.un5 (F:Fly P w outer H s H' a cls d B a0 s') (St:B.StaysIn h5) (U:s'.heap.UpToSlots h5):Un (frs outer) [] H H' s.heap h5 where
  keep := fun b o e n hb _ => St b o (F.old b o e n hb)
  slot := fun b o e n hb hx => by
    obtain ⟨sl, e1⟩ := F.un.slot b o e n hb hx
    obtain ⟨sl2, e2⟩ := F.slots U hb e1
    exact ⟨sl2, e2⟩
  free := F.un.free
  there := fun b o e hx => by
    by_cases hb : b ∈ frs outer
    · obtain ⟨o', e1⟩ := F.un.there b o e hx
      obtain ⟨sl, e2⟩ := F.slots U hb e1
      exact ⟨_, e2⟩
    · obtain ⟨o', e1⟩ := F.any b o e hb
      exact ⟨o', St b o' e1⟩
  tups := F.un.tups
  frzs := F.un.frzs
  tbls := F.un.tbls
theorem Fly.hok5 (F:Fly P w outer H s H' a cls d B a0 s') (St:B.StaysIn h5):HOk P w H' h5:=fun b u e=>by
  refine (F.hok b u e).stay (fun c v hc q=>St c v (F.trk c v ?_ q)) (fun _ q=>q) fun _ _ q=>q
  rcases hc with z | z
  · rw [z, e]; simp
  · rw [z]; simp
theorem Fly.trk5 (F:Fly P w outer H s H' a cls d B a0 s') (St:B.StaysIn h5):∀ b o,H' b ≠ none→h5.get? b = some o→B.get? b = some o:=fun b o n e=>by
  cases q : H' b with
  | none => exact absurd q n
  | some u =>
    obtain ⟨o1, e1⟩ := obj_some (F.hok b u q)
    have e2 := F.trk b o1 n e1
    have e3 := St b o1 e2
    rw [e] at e3
    cases e3
    exact e2
end
structure DefCx (X : Cx) : Prop where
  stk : X.stack = X.env :: X.outer
  fr : X.env.frame = some X.env.locals
  ex : X.ex = []
section
variable {X:Cx} {pins:List (Addr × Obj)} {σ:L2.St} {H H':Hp} {s s':Shared} {M:Model} {E:Value→Shared→Prop} {Q:Unit→Shared→Prop}
theorem not_stk (I:Inv X pins σ H s) {b:Addr} {o:Obj} (e:X.s₀.heap.get? b = some o) (hb:b ∉ X.fs):b ∉ frs X.stack:=fun z=>by
  rcases List.mem_cons.mp (I.stkSub b z) with q | q
  · subst q
    exact Nat.lt_irrefl _ (Nat.lt_of_lt_of_le (Heap.lt_size e) I.ok.above)
  · exact hb q
theorem fresh_of (D:DefCx X) (I:Inv X pins σ H s) {a:Addr} (n:s.heap.get? a = none):X.s₀.heap.get? a = none:=by
  cases q : X.s₀.heap.get? a with
  | none => rfl
  | some o =>
    obtain ⟨o',e⟩:=I.base.there a o q (by rw [D.ex]; simp)
    rw [n] at e
    cases e
theorem fly_on {a:Addr} {cls a0:Value} {d:Option Addr} {B:Heap} (D:DefCx X) (I:Inv X pins σ H s) (F:Fly X.prog X.w X.stack H s H' a cls d B a0 s')
    (k:∀ s'',Fly X.prog X.w X.outer X.H₀ X.s₀ H' a cls d B a0 s''→Q () s''):wpAny M X.A (leaving X.env (.ref a)) Q E s':=by
  have hfr:X.A.frames = some (X.env :: X.outer):=by rw [I.ok.frames,D.stk]
  have hfl := F.fly
  rw [D.stk] at hfl
  have hex:∀ b:Addr,b ∉ X.ex:=fun b=>by rw [D.ex]; simp
  refine wpAny_mono (mild_any mild_leaving F.dct (wpAny_leaves_onW (Q:=fun _ s5=>∃ h5,s5 = { s' with heap:=h5 }∧Heap.FlyingW B X.outer a cls a0 h5∧s'.heap.UpToSlots h5) hfr D.fr hfl fun h5 f5 u5=>⟨h5,rfl,f5,u5⟩)) (fun _ s5 ⟨⟨h5,e5,f5,u5⟩,d5⟩=>?_) fun _ _ z=>z
  subst e5
  refine k _ ?_
  have I5:Inv X pins σ H' { s' with heap:=h5 }:=I.call' (s':={ s' with heap:=h5 }) (ch:=[]) F.os (F.un5 f5.1 u5) (F.hok5 f5.1) F.bare fun b hb=>absurd hb (by simp)
  refine ⟨I5.os,I5.bare,?_,I5.hok,fresh_of D I F.fresh,F.free,f5,F.trk5 f5.1,fun b o e n hb=>?_,fun b o e hb=>?_,d5⟩
  · have u := I5.base
    rw [D.ex] at u
    exact u
  · exact F.old b o (I.base.keep b o e n hb (hex b)) (I.base.free b o e n (hex b)) (not_stk I e hb)
  · obtain ⟨o1, e1⟩ := I.base.there b o e (hex b)
    exact F.any b o1 e1 (not_stk I e hb)
theorem fly_made {h':Heap} {e:Addr} {cls:Value} {vs:List Value} (D:DefCx X) (I:Inv X pins σ H s) (hx:Heap.MadeExcOf s.heap h' e cls vs)
    (k:∀ s'' B a0,Fly X.prog X.w X.outer X.H₀ X.s₀ H e cls none B a0 s''→Q () s''):wpAny M X.A (leaving X.env (.ref e)) Q E { s with heap:=h' }:=by
  have hfr:X.A.frames = some (X.env :: X.outer):=by rw [I.ok.frames,D.stk]
  have hex:∀ b:Addr,b ∉ X.ex:=fun b=>by rw [D.ex]; simp
  have hB:∀ b o,s.heap.get? b = some o→b ∉ frs X.stack→(PySem.W.hideAll s.heap (frs X.stack)).get? b = some o:=fun b o q nm=>PySem.W.hideAll_get _ q nm
  have hl:s.heap.FunFrames (PySem.W.hideAll s.heap (frs X.stack)) (X.env :: X.outer):=by
    have z:=PySem.W.funFrames_hide (as:=frs X.stack) I.stack fun env he b hb=>List.mem_filterMap.mpr ⟨env,he,hb⟩
    rw [D.stk] at z ⊢
    exact z
  have tn:∀ b,H b ≠ none→b ∉ frs X.stack:=fun b n z=>n (I.stkFree b z)
  have D0:DctAt e none ({ s with heap:=h' }:Shared).heap:=by
    obtain ⟨t, q, _⟩ := hx.there
    exact ⟨_, q, rfl⟩
  refine wpAny_mono (mild_any mild_leaving D0 (wpAny_leaves_madeW (s:={ s with heap:=h' }) (Q:=fun _ s5=>∃ h5 t,s5 = { s with heap:=h5 }∧Heap.FlyingW (PySem.W.hideAll s.heap (frs X.stack)) X.outer e cls (.ref t) h5∧h'.UpToSlots h5) hfr D.fr (fun b o q=>PySem.W.of_hideAll _ q) hl hx fun h5 t f5 _ _ u5=>⟨h5,t,rfl,f5,u5⟩)) (fun _ s5 ⟨⟨h5,t,e5,f5,u5⟩,d5⟩=>?_) fun _ _ z=>z
  subst e5
  refine k _ (PySem.W.hideAll s.heap (frs X.stack)) (.ref t) ?_
  have St := f5.1
  have un5 : Un (frs X.stack) [] H H s.heap h5 := by
    have sl:∀ b o,s.heap.get? b = some o→b ∈ frs X.stack→∃ sl,h5.get? b = some { o with slots:=sl }:=fun b o e hb=>by
      obtain ⟨_, o', e', nf⟩ := I.stack.mem hb
      rw [e] at e'
      cases e'
      exact u5 b o (hx.keeps b o e) nf
    refine ⟨fun b o e n hb _=>St b o (hB b o e hb),fun b o e n hb _=>sl b o e hb,fun _ _ _ n _=>n,fun b o e _=>?_,fun _ _ q=>q,fun _ _ _ q=>q,fun b ps q=>⟨#[],by rw [q]; simp⟩⟩
    by_cases hb : b ∈ frs X.stack
    · obtain ⟨z, e1⟩ := sl b o e hb
      exact ⟨_, e1⟩
    · exact ⟨o, St b o (hB b o e hb)⟩
  have hok5 : HOk X.prog X.w H h5 := fun b u e => by
    refine (I.hok b u e).stay (fun c v hc q=>St c v (hB c v q (tn c ?_))) (fun _ q=>q) fun _ _ q=>q
    rcases hc with z | z
    · rw [z, e]; simp
    · rw [z]; simp
  have I5:Inv X pins σ H { s with heap:=h5 }:=I.call' (s':={ s with heap:=h5 }) (ch:=[]) rfl un5 hok5 I.bare fun b hb=>absurd hb (by simp)
  refine ⟨I5.os,I5.bare,?_,hok5,fresh_of D I hx.new,?_,f5,fun b o n q=>?_,fun b o e n hb=>?_,fun b o e hb=>?_,d5⟩
  · have u := I5.base
    rw [D.ex] at u
    exact u
  · cases q : H e with
    | none => rfl
    | some u =>
      obtain ⟨o, z⟩ := obj_some (I.hok e u q)
      rw [hx.new] at z
      cases z
  · cases z : H b with
    | none => exact absurd z n
    | some u =>
      obtain ⟨o1, e1⟩ := obj_some (I.hok b u z)
      have e2 := hB b o1 e1 (tn b n)
      have e3 := St b o1 e2
      have q' : h5.get? b = some o := q
      rw [q'] at e3
      cases e3
      exact e2
  · exact hB b o (I.base.keep b o e n hb (hex b)) (not_stk I e hb)
  · obtain ⟨o1, e1⟩ := I.base.there b o e (hex b)
    exact ⟨o1, hB b o1 e1 (not_stk I e hb)⟩
end
def CXE (P:Program) (w:World):CXT:=fun outer H s E e s'=>∃ a cls d H' B a0,e = .ref a∧Fly P w outer H s H' a cls d B a0 s'∧E cls d H'
theorem cxe0 {P:Program} {w:World} {outer:List Env} {H:Hp} {s s':Shared} {e:Value} (h:CXE P w outer H s (fun _ _ _=>False) e s'):False:=by
  obtain ⟨_, _, _, _, _, _, _, _, z⟩ := h
  exact z
theorem passX0 {X:Cx}:Passes (CXE X.prog X.w) X E0:=fun _ _ _ _ _ _ _ h=>(cxe0 h).elim
section
variable {P:Program} {w:World} {K:PySem.W.Frag} {mg:Str→Option Value} {base:Heap} {N:List Str} {qual:Str} {scope:Scope} {f:Addr} {cd:Value} {A:Around} {outer:List Env} {s₀:Shared} {H₀:Hp} {E:XK}
theorem passX:Passes (CXE P w) (cxOf (CXE P w) P w K mg base N qual scope f cd A outer s₀ H₀ E) E:=by
  intro pins σ H1 s1 e s' I h
  obtain ⟨a, cls, d, H', B, a0, rfl, F, q⟩ := h
  exact fly_on (X:=cxOf (CXE P w) P w K mg base N qual scope f cd A outer s₀ H₀ E) ⟨rfl,rfl,rfl⟩ I F fun s'' F'=>⟨a,cls,d,H',B,a0,rfl,F',q⟩
theorem raiseX {pins:List (Addr × Obj)} {σ:L2.St} {H:Hp} {s:Shared} {h':Heap} {e:Addr} {cls:Value} {vs:List Value} (I:Inv (cxOf (CXE P w) P w K mg base N qual scope f cd A outer s₀ H₀ E) pins σ H s) (hx:Heap.MadeExcOf s.heap h' e cls vs) (q:E cls none H) :
    (cxOf (CXE P w) P w K mg base N qual scope f cd A outer s₀ H₀ E).xe (.ref e) { s with heap:=h' } :=
  fly_made (X:=cxOf (CXE P w) P w K mg base N qual scope f cd A outer s₀ H₀ E) ⟨rfl,rfl,rfl⟩ I hx fun s'' B a0 F'=>⟨e,cls,none,H,B,a0,rfl,F',q⟩
end
end Lw
end
section
set_option Elab.async false
set_option linter.all false
set_option maxRecDepth 100000
set_option maxHeartbeats 4000000
namespace Lw
open PySem PySem.Spec PyProof.Rows L2
def Br (b:Bool) (A B:Prop):Prop:=(b = true→A)∧(b = false→B)
theorem br_eq (b:Bool) (A B:Prop):Br b A B = (if b = true then A else B):=by
  unfold Br
  cases b <;> simp
def dVar (i : Nat) : TE := fun σ H Q => match σ[i]? with
  | some (some v) => Q v H
  | _ => False
theorem dVar_eq (i : Nat) : dVar i = tVar i := by
  funext σ H Q
  apply propext
  unfold dVar tVar
  cases h : σ[i]? with
  | none => simp
  | some o => cases o <;> simp
def dI (C:Int→Int→Prop) (g:Int→Int→V):R2:=fun x y H Q=>match x,y with
  | .int i, .int j => C i j ∧ Q (g i j) H
  | _, _ => False
def dI0 (g:Int→Int→V):R2:=fun x y H Q=>match x,y with
  | .int i, .int j => Q (g i j) H
  | _, _ => False
def dU (g:Int→V):V→Hp→VK→Prop:=fun x H Q=>match x with
  | .int i => Q (g i) H
  | _ => False
def dTest (t:TE):TT:=fun σ H Q=>t σ H fun x H'=>match x with
  | .bl k => Q k H'
  | _ => False
theorem dTest_eq (t : TE) : dTest t = tTest t := by
  funext σ H Q
  unfold dTest tTest
  congr 1
  funext x H'
  apply propext
  cases x <;> simp
theorem dTest_eqB (t : TE) : dTest t = tB t := dTest_eq t
def dAnd (t u:TT):TT:=fun σ H Q=>t σ H fun c H1=>Br c (u σ H1 Q) (Q false H1)
def dOr (t u:TT):TT:=fun σ H Q=>t σ H fun c H1=>Br c (Q true H1) (u σ H1 Q)
theorem dAnd_eq (t u : TT) : dAnd t u = tAnd t u := by
  funext σ H Q
  unfold dAnd tAnd
  simp only [br_eq]
theorem dOr_eq (t u : TT) : dOr t u = tOr t u := by
  funext σ H Q
  unfold dOr tOr
  simp only [br_eq]
def dAndV (ta tb:TE):TE:=fun σ H Q=>ta σ H fun x H1=>match x with
  | .bl c => Br c (tb σ H1 Q) (Q (.bl false) H1)
  | _ => False
def dNotV (ta:TE):TE:=fun σ H Q=>ta σ H fun x H1=>match x with
  | .bl c => Q (.bl (!c)) H1
  | _ => False
theorem dAndV_eq (t u : TE) : dAndV t u = tAndV t u := by
  funext σ H Q
  unfold dAndV tAndV
  congr 1
  funext x H'
  apply propext
  cases x <;> simp [br_eq]
theorem dNotV_eq (t : TE) : dNotV t = tNotV t := by
  funext σ H Q
  unfold dNotV tNotV
  congr 1
  funext x H'
  apply propext
  cases x <;> simp
def dIfS (c:TT) (t u:TS):TS:=fun D σ H=>c σ H fun b H1=>Br b (t D σ H1) (u D σ H1)
theorem dIfS_eq (c:TT) (t u:TS):dIfS c t u = tIfS c t u:=by
  funext D σ H
  unfold dIfS tIfS
  simp only [br_eq]
def dIf (t:TT) (ta tb:TE):TE:=fun σ H Q=>t σ H fun c H1=>Br c (ta σ H1 Q) (tb σ H1 Q)
theorem dIf_eq (c:TT) (t u:TE):dIf c t u = tIf c t u:=by
  funext D σ H
  unfold dIf tIf
  simp only [br_eq]
section
variable {X:Cx} {a b c:Expr} {ta tb tc:TE} {pos:Pos} {tA tB':TT} {rest:List Expr}
theorem dv (i:Nat) {x:Str} {pos:Pos} (hN:X.N[i]? = some x:=by rfl) (hv:Vis X.env.scope x:=by first | exact Or.inl rfl | exact Or.inr (Or.inl rfl) | exact Or.inr (Or.inr rfl)) (hd:(x == ("__debug__":Str)) = false:=by decide)
    (hcd:(x == ("__classdict__":Str)) = false:=by decide):PE X (.Name x pos) (dVar i):=by
  rw [dVar_eq]
  exact pe_var hN hv hd hcd
theorem opD {f:Value→Value→Sem Value} {C:Int→Int→Prop} {g:Int→Int→V} (h:OpR X f (rI C g)):OpR X f (dI C g):=by
  intro pins s σ H x y v u Q I rx ry q
  cases x <;> cases y <;> first
    | exact False.elim q
    | exact h _ _ _ _ _ _ _ _ _ I rx ry ⟨_,_,rfl,rfl,q.1,q.2⟩
theorem opD0 {f:Value→Value→Sem Value} {g:Int→Int→V} (h:OpR X f (rI0 g)):OpR X f (dI0 g):=by
  intro pins s σ H x y v u Q I rx ry q
  cases x <;> cases y <;> first
    | exact False.elim q
    | exact h _ _ _ _ _ _ _ _ _ I rx ry ⟨_, _, rfl, rfl, q⟩
theorem unD {f:Value→Sem Value} {g:Int→V} (h:UnR X f (rU g)):UnR X f (dU g):=by
  intro pins s σ H x v Q I rx q
  cases x <;> first
    | exact False.elim q
    | exact h _ _ _ _ _ _ _ I rx ⟨_, rfl, q⟩
def Bd (n : Nat) (x : Int) : Prop := x.natAbs < 2 ^ n
theorem Bd.bits {n:Nat} {x:Int} (h:Bd n x):Builtin.Int.intBits x ≤ n:=intBits_le_iff.mpr h
def COk (i j:Int):Prop:=(Bd 4000 i∧Bd 4000 j) ∨ CMul i j
theorem COk.ok {i j:Int} (h:COk i j):IntMulOk i j:=by
  rcases h with ⟨h1, h2⟩ | h
  · exact PySem.IntMulOk.of_bits (Nat.le_trans h1.bits (by decide)) (Nat.le_trans h2.bits (by decide))
  · exact h.ok
theorem pow_log {n:Nat} {x:Int} (h:Bd n x) (h0:0 < n):x.natAbs.log2 < n:=by
  by_cases z : x.natAbs = 0
  · rw [z]
    simpa using h0
  · exact (Nat.log2_lt z).mpr h
theorem o_add:OpR X (binaryOp .Add) (dI0 fun i j=>.int (i + j)):=opD0 op_add
theorem o_sub:OpR X (binaryOp .Sub) (dI0 fun i j=>.int (i - j)):=opD0 op_sub
theorem o_mul:OpR X (binaryOp .Mult) (dI COk fun i j=>.int (i * j)):=opD (opI fun _ _ _ _ _ _ _ hc q=>mul_int q hc.ok)
theorem o_div:OpR X (binaryOp .FloorDiv) (dI (fun _ j=>0 < j∧Bd 4000 j) fun i j=>.int (i / j)):=opD (opI fun i j _ _ _ _ _ hc q=>by
  have h1 : (0 : Int) < j := hc.1
  exact floordiv_int (by omega) (by rw [Int.fdiv_eq_ediv_of_nonneg i (by omega)]; exact q) (.inl (PyProof.noPylong_of_log2 (Nat.lt_trans (pow_log hc.2 (by decide)) (by decide)))))
theorem o_divN:OpR X (binaryOp .FloorDiv) (dI (fun _ j=>j ≠ 0∧Bd 4000 j) fun i j=>.int (i.fdiv j)):=opD (opI fun i j _ _ _ _ _ hc q=>by
  exact floordiv_int hc.1 q (.inl (PyProof.noPylong_of_log2 (Nat.lt_trans (pow_log hc.2 (by decide)) (by decide)))))
theorem o_mod:OpR X (binaryOp .Mod) (dI (fun _ j=>0 < j) fun i j=>.int (i % j)):=opD op_mod
theorem o_modN:OpR X (binaryOp .Mod) (dI (fun _ j=>j ≠ 0) fun i j=>.int (i.fmod j)):=opD op_modN
theorem o_lt:OpR X (compareOp .Lt) (dI0 fun i j=>.bl (decide (i < j))):=opD0 op_lt
theorem o_le:OpR X (compareOp .LtE) (dI0 fun i j=>.bl (decide (i ≤ j))):=opD0 op_le
theorem o_gt:OpR X (compareOp .Gt) (dI0 fun i j=>.bl (decide (j < i))):=opD0 op_gt
theorem o_ge:OpR X (compareOp .GtE) (dI0 fun i j=>.bl (decide (j ≤ i))):=opD0 op_ge
theorem u_neg:UnR X (unaryOp .USub) (dU fun i=>.int (-i)):=unD un_neg
def dEq : R2 := fun x y H Q => match x, y with
  | .int i, .int j => Q (.bl (decide (i = j))) H
  | .bl i, .bl j => Q (.bl (i == j)) H
  | .str i, .str j => Q (.bl (decide (i = j))) H
  | _, _ => False
def dNe : R2 := fun x y H Q => match x, y with
  | .int i, .int j => Q (.bl (!decide (i = j))) H
  | .bl i, .bl j => Q (.bl (i != j)) H
  | .str i, .str j => Q (.bl (!decide (i = j))) H
  | _, _ => False
theorem o_eq : OpR X (compareOp .Eq) dEq := by
  intro pins s σ H x y v u Q I rx ry q
  cases x <;> cases y <;> first
    | exact False.elim q
    | (refine op_eq _ _ _ _ _ _ _ _ _ I rx ry ⟨rfl, ?_⟩
       have e:∀ (i j:Int),decide (V.int i = V.int j) = decide (i = j):=fun i j=>by simp
       have e2:∀ (i j:Str),decide (V.str i = V.str j) = decide (i = j):=fun i j=>by simp
       first
         | (rw [e]; exact q)
         | (rw [e2]; exact q)
         | (rw [dec_bl]; exact q))
theorem o_ne : OpR X (compareOp .NotEq) dNe := by
  intro pins s σ H x y v u Q I rx ry q
  cases x <;> cases y <;> first
    | exact False.elim q
    | (refine op_ne _ _ _ _ _ _ _ _ _ I rx ry ⟨rfl, ?_⟩
       have e:∀ (i j:Int),decide (V.int i = V.int j) = decide (i = j):=fun i j=>by simp
       have e2:∀ (i j:Str),decide (V.str i = V.str j) = decide (i = j):=fun i j=>by simp
       first
         | (rw [e]; exact q)
         | (rw [e2]; exact q)
         | (rw [dec_bl]; exact q))
theorem t_cmp {op:CmpOp} {r:R2} (ho:OpR X (compareOp op) r) (ha:PE X a ta) (hb:PE X b tb) (hm:behindInMarks op b = false):PT X (.Compare a [op] [b] pos) (dTest (tOp r ta tb)):=by
  rw [dTest_eq]
  exact pt_cmpR ho ha hb hm
theorem t_isN {j pos'} (ha:PE X a ta):PT X (.Compare a [.Is] [.Constant .none j pos'] pos) (dTest (tIsN ta)):=by
  rw [dTest_eqB]
  exact pt_cmp (pc_isN ha)
theorem t_notN {j pos'} (ha:PE X a ta):PT X (.Compare a [.IsNot] [.Constant .none j pos'] pos) (dTest (tNotN ta)):=by
  rw [dTest_eqB]
  exact pt_cmp (pc_notN ha)
theorem e_isN {j pos'} (ha:PE X a ta):PE X (.Compare a [.Is] [.Constant .none j pos'] pos) (tIsN ta):=pe_cmp (pc_isN ha)
theorem t_val {e:Expr} {t:TE} (h:PE X e t) (he:∀ whole,isTrue e X.env whole = (do let v ← whole; standAt e.pos; holding [v] (truthy v)):=by intro _; rfl):PT X e (dTest t):=by
  rw [dTest_eqB]
  exact pt_val h he
theorem w_and (ha:PT X a tA) (hb:PW X (.BoolOp .And (b :: rest) pos) tB'):PW X (.BoolOp .And (a :: b :: rest) pos) (dAnd tA tB'):=by
  rw [dAnd_eq]
  exact pw_and ha hb
theorem w_or (ha:PT X a tA) (hb:PW X (.BoolOp .Or (b :: rest) pos) tB'):PW X (.BoolOp .Or (a :: b :: rest) pos) (dOr tA tB'):=by
  rw [dOr_eq]
  exact pw_or ha hb
theorem e_and (ha:PE X a ta) (hb:PE X (.BoolOp .And (b :: rest) pos) tb):PE X (.BoolOp .And (a :: b :: rest) pos) (dAndV ta tb):=by
  rw [dAndV_eq]
  exact pe_and ha hb
theorem e_not (ha:PE X a ta):PE X (.UnaryOp .Not a pos) (dNotV ta):=by
  rw [dNotV_eq]
  exact pe_not ha
theorem e_if {c:Expr} (hc:PT X c tA) (ha:PE X a ta) (hb:PE X b tb):PE X (.IfExp c a b pos) (dIf tA ta tb):=by
  rw [dIf_eq]
  exact pe_ifExp hc ha hb
theorem s_if {c:Expr} {a b:List Stmt} {tc:TT} {t u:TS} (hc:PT X c tc) (ha:PSs X a t) (hb:PSs X b u):PS X (.If c a b pos) (dIfS tc t u):=by
  rw [dIfS_eq]
  exact ps_if hc ha hb
def tCut (R:L2.St→Hp→Prop) (t u:TS):TS:=fun D σ H=>t { D with nx:=R } σ H∧∀ σ' H',R σ' H'→u D σ' H'
theorem ss_cut (R:L2.St→Hp→Prop) {st:Stmt} {r:List Stmt} {t u:TS} (h1:PS X st t) (h2:PSs X r u):PSs X (st :: r) (tCut R t u):=by
  intro pins s σ H D I h
  refine wpAny_execs_cons (thn (h1 pins s σ H { D with nx:=R } I h.1) fun f s1 q=>?_)
  cases f with
  | next =>
    obtain ⟨σ', H', I', q⟩ := q
    exact h2 pins s1 σ' H' D I' (h.2 σ' H' q)
  | ret v => exact q
  | brk => exact q
  | cont => exact q
structure Cal (P:Program) (w:World) (K:PySem.W.Frag) (mg:Str→Option Value) (base:Heap) (x:Str) (ps:List Str) (k:Nat) (sp:Sp):Prop where
  ex:∃ (f:Addr) (fd:FuncData),mg x = some (.ref f)∧PySem.W.keepIn K (.ref f) = true∧Binds K fd ps []∧FnOk P w K mg base (CXE P w) k f fd ps sp ∧
    ∃ (oc:Value) (od:Option Addr) (osl:Array (Option Value)),K.lookup f = some ⟨oc,od,.func fd,osl⟩
def dCall (sp:Sp) (t:TA):TE:=fun σ H Q=>t σ H fun vs H1=>sp vs H1 Q E0
theorem dCall_eq (sp:Sp) (t:TA):dCall sp t = tCall sp [] E0 t:=by
  funext σ H Q
  unfold dCall tCall
  simp only [List.append_nil]
theorem e_call {x:Str} {ps:List Str} {k k':Nat} {sp:Sp} {p:Pos} {e:Expr} {es:List Expr} {t:TA} (C:Cal X.prog X.w X.K X.mg X.base x ps k sp) (hr:Room k' X.A) (hk:k ≤ k') (hg:Gl X x)
    (ha:PA X (e :: es) t) (hdb:(x == ("__debug__":Str)) = false:=by decide) (he:starEach (e :: es) X.env = (false,eval e X.env) :: starEach es X.env:=by rfl) (hpl:(backTo pos (starEach es X.env)).any (·.1) = false:=by rfl) :
    PE X (.Call (.Name x p) (e :: es) [] pos) (dCall sp t):=by
  obtain ⟨f, fd, h1, h2, h3, h4, _⟩ := C.ex
  rw [dCall_eq]
  exact pe_call (h4.mono hk) hr hg h1 h2 h3 .nil passX0 ha hdb he hpl
def lenOk (xs : List V) : Bool := Nat.ble xs.length 1000
theorem lenOk_le {xs:List V} (h:lenOk xs = true):xs.length ≤ sizeLine:=Nat.le_trans (Nat.le_of_ble_eq_true h) (by decide)
def dTup (t:TA):TE:=fun σ H Q=>t σ H fun xs H1=>match lenOk xs with
  | true=>∀ p H',Same H1 H'→H' p = some (.tup xs)→Q (.ref p) H'
  | false => False
def dLst (t:TA):TE:=fun σ H Q=>t σ H fun xs H1=>match lenOk xs with
  | true=>∀ p H',Same H1 H'→H' p = some (.lst xs)→Q (.ref p) H'
  | false => False
theorem same_upd {H:Hp} {p:Addr} {o:HO} (h:H p = none):Same H (upd H p o):=fun b u e=>by
  rw [upd_ne (ne_of_none e h)]
  exact e
theorem e_tup {es:List Expr} {t:TA} {x1} (h:PA X es t):PE X (.Tuple es x1 pos) (dTup t):=by
  intro pins s σ H Q I hq
  refine wpAny_Tuple_spliced (thn (h pos pins s σ H _ I hq) fun us s1 ⟨xs,H1,I1,r,q⟩=>?_)
  cases hl : lenOk xs with
  | false =>
    have q':(match lenOk xs with | true=>_ | false=>False:Prop):=q
    rw [hl] at q'
    exact q'.elim
  | true =>
    have z := lenOk_le hl
    have q':(match lenOk xs with | true=>∀ p H',Same H1 H'→H' p = some (.tup xs)→Q (.ref p) H' | false=>False:Prop):=q
    rw [hl] at q'
    refine ⟨by rw [← r.length]; exact z, ?_⟩
    have hf:H1 s1.heap.objs.size = none:=I1.hok.fresh (Nat.le_refl _)
    refine ⟨.ref s1.heap.objs.size,upd H1 s1.heap.objs.size (.tup xs),I1.laid (t':=s1.toks) (fun b u e=>Heap.get?_push_of_some _ e) (Nat.le_refl _) ?_,rfl,q' _ _ (same_upd hf) upd_same⟩
    exact ⟨z,us,r,⟨_,Heap.get?_push_size _ rfl,rfl,_,rfl⟩⟩
theorem e_lst {es:List Expr} {t:TA} (h:PA X es t):PE X (.List es pos) (dLst t):=by
  intro pins s σ H Q I hq
  refine wpAny_List_spliced (thn (h pos pins s σ H _ I hq) fun us s1 ⟨xs,H1,I1,r,q⟩=>?_)
  cases hl : lenOk xs with
  | false =>
    have q':(match lenOk xs with | true=>_ | false=>False:Prop):=q
    rw [hl] at q'
    exact q'.elim
  | true =>
    have z := lenOk_le hl
    have q':(match lenOk xs with | true=>∀ p H',Same H1 H'→H' p = some (.lst xs)→Q (.ref p) H' | false=>False:Prop):=q
    rw [hl] at q'
    refine ⟨by rw [← r.length]; exact z, ?_⟩
    have hf:H1 s1.heap.objs.size = none:=I1.hok.fresh (Nat.le_refl _)
    refine ⟨.ref s1.heap.objs.size,upd H1 s1.heap.objs.size (.lst xs),I1.laid (t':=s1.toks) (fun b u e=>Heap.get?_push_of_some _ e) (Nat.le_refl _) ?_,rfl,q' _ _ (same_upd hf) upd_same⟩
    exact ⟨z, us, 0, r, Heap.get?_push_size _ rfl⟩
def nthI (xs : List V) : Int → Option V
  | .ofNat n => xs[n]?
  | .negSucc _ => none
theorem nthI_at {xs:List V} {i:Int} {v:V} (h:nthI xs i = some v):atI xs i = some v:=by
  cases i with
  | ofNat n => exact atI_nat h
  | negSucc n => cases h
def dIxT : R2 := fun x y H Q => match x, y with
  | .ref p,.int i=>∃ xs,H p = some (.tup xs)∧match nthI xs i with
    | some v => Q v H
    | none => False
  | _, _ => False
def dIxL (K:PySem.W.Frag):R2:=fun x y H Q=>match x,y with
  | .ref p,.int i=>∃ xs v,SqL K H p xs∧atI xs i = some v∧Q v H
  | _, _ => False
theorem i_tup : IxR X dIxT := by
  intro value slice pins s σ H x y v u Q I rx ry h hs
  cases x <;> cases y <;> first
    | exact False.elim h
    | (obtain ⟨xs, e, q⟩ := h
       cases z : nthI xs _ with
       | none =>
         rw [z] at q
         exact q.elim
       | some w =>
         rw [z] at q
         exact ix_tup value slice pins s σ H _ _ v u Q I rx ry ⟨_,xs,_,w,rfl,rfl,SqT.of e,nthI_at z,q⟩ hs)
theorem i_lst : IxR X (dIxL X.K) := by
  intro value slice pins s σ H x y v u Q I rx ry h hs
  cases x <;> cases y <;> first
    | exact False.elim h
    | (obtain ⟨xs, w, e, z, q⟩ := h
       exact ix_list value slice pins s σ H _ _ v u Q I rx ry ⟨_,xs,_,w,rfl,rfl,e,z,q⟩ hs)
theorem e_ty (T:String) {x:Str} (hg:Gl X x) (hm:X.mg x = none) (hv:bootBuiltins x = some (.type T)) (hn:x ≠ "__name__":=by decide) (hd:(x == ("__debug__":Str)) = false:=by decide):PE X (.Name x pos) (tC (.ty T)) :=
  pe_bltn hg hm hv rfl hn hd
def dAbs:List V→Hp→VK→Prop:=fun xs H Q=>match xs with
  | [.int i] => Q (.int (i.natAbs : Int)) H
  | _ => False
theorem c_abs : CallR X (.builtin "abs") dAbs := by
  intro pins s σ H xs us Q I r h
  match xs, h with
  | [.int i], h =>
    have e:(if i < 0 then -i else i) = (i.natAbs:Int):=by split <;> omega
    exact call_abs pins s σ H _ us Q I r ⟨i,rfl,by rw [e]; exact h⟩
def dLen (K:PySem.W.Frag):List V→Hp→VK→Prop:=fun xs H Q=>match xs with
  | [.ref p]=>∃ ys,(SqL K H p ys ∨ SqT K H p ys)∧Q (.int ys.length) H
  | [.str z] => z.length ≤ sizeLine ∧ Q (.int z.length) H
  | _ => False
theorem c_len : CallR X (.builtin "len") (dLen X.K) := by
  intro pins s σ H xs us Q I r h
  match xs, h with
  | [.ref p],⟨ys,h1,q⟩=>exact call_len_seq pins s σ H _ us Q I r ⟨p,ys,rfl,h1,q⟩
  | [.str z],⟨h1,q⟩=>exact call_len_str pins s σ H _ us Q I r ⟨z,rfl,h1,q⟩
def tyB (t c : String) : Option Bool :=
  if t = c then some true else if t = "bool"∧c = "int" then some true
  else if (t = "int" ∨ t = "bool" ∨ t = "str" ∨ t = "tuple" ∨ t = "list" ∨ t = "dict" ∨ t = "NoneType")∧(c = "int" ∨ c = "bool" ∨ c = "str" ∨ c = "tuple" ∨ c = "list") then some false else none
def tyHO : HO → Option String
  | .lst _ => some "list"
  | .frz _ (.lst _) => some "list"
  | .tup _ => some "tuple"
  | .dK _ => some "dict"
  | .dT _ => some "dict"
  | _ => none
def dIsi:List V→Hp→VK→Prop:=fun xs H Q=>match xs with
  | [.non,.ty c]=>∃ b,tyB "NoneType" c = some b∧Q (.bl b) H
  | [.bl _,.ty c]=>∃ b,tyB "bool" c = some b∧Q (.bl b) H
  | [.int _,.ty c]=>∃ b,tyB "int" c = some b∧Q (.bl b) H
  | [.str _,.ty c]=>∃ b,tyB "str" c = some b∧Q (.bl b) H
  | [.ref p,.ty c]=>∃ u b t,H p = some u∧tyHO u = some t∧tyB t c = some b∧Q (.bl b) H
  | _ => False
theorem kit_tyB (K:PySem.W.Frag) {t c:String} {b:Bool} (h:tyB t c = some b):PySem.W.kitOne K (.type t) (.type c) = some b:=by
  unfold tyB at h
  split at h
  · rename_i e
    subst e
    cases h
    unfold PySem.W.kitOne
    rw [if_pos (by simp)]
  · split at h
    · rename_i e
      obtain ⟨rfl, rfl⟩ := e
      cases h
      kernel_rfl
    · split at h
      · rename_i e1 e2 e
        cases h
        obtain ⟨ht, hc⟩ := e
        rcases ht with rfl | rfl | rfl | rfl | rfl | rfl | rfl <;> rcases hc with rfl | rfl | rfl | rfl | rfl <;> first
          | exact absurd rfl e1
          | exact absurd ⟨rfl, rfl⟩ e2
          | kernel_rfl
      · cases h
theorem c_isi : CallR X (.builtin "isinstance") dIsi := by
  intro pins s σ H xs us Q I r h
  match xs, h with
  | [.non, .ty c], ⟨b, e, q⟩ =>
    obtain ⟨u, w', rfl, r1, r2⟩ := vals2 r
    cases (show w' = Value.type c from r2)
    exact isinst_ok I r1 .non (kit_tyB X.K e) fun tk=>⟨.bl b,H,I.tok _,rfl,q⟩
  | [.bl y, .ty c], ⟨b, e, q⟩ =>
    obtain ⟨u, w', rfl, r1, r2⟩ := vals2 r
    cases (show w' = Value.type c from r2)
    exact isinst_ok I r1 (.bl y) (kit_tyB X.K e) fun tk=>⟨.bl b,H,I.tok _,rfl,q⟩
  | [.int y, .ty c], ⟨b, e, q⟩ =>
    obtain ⟨u, w', rfl, r1, r2⟩ := vals2 r
    cases (show w' = Value.type c from r2)
    exact isinst_ok I r1 (.int y) (kit_tyB X.K e) fun tk=>⟨.bl b,H,I.tok _,rfl,q⟩
  | [.str y, .ty c], ⟨b, e, q⟩ =>
    obtain ⟨u, w', rfl, r1, r2⟩ := vals2 r
    cases (show w' = Value.type c from r2)
    exact isinst_ok I r1 (.str y) (kit_tyB X.K e) fun tk=>⟨.bl b,H,I.tok _,rfl,q⟩
  | [.ref p, .ty c], ⟨o, b, t, e1, e2, e, q⟩ =>
    obtain ⟨u, w', rfl, r1, r2⟩ := vals2 r
    cases (show w' = Value.type c from r2)
    have ty : TyOf X.K H (.ref p) (.type t) := by
      cases o with
      | lst ys => cases e2; exact .lst e1
      | tup ys => cases e2; exact .tup e1
      | dK ys => cases e2; exact .dK e1
      | dT ys => cases e2; exact .dT e1
      | frz ob u =>
        cases u with
        | lst ys => cases e2; exact .frz e1
        | _ => cases e2
      | _ => cases e2
    exact isinst_ok I r1 ty (kit_tyB X.K e) fun tk=>⟨.bl b,H,I.tok _,rfl,q⟩
end
section
variable {X : Cx} {pos : Pos}
def dWhile (c:TT) (tb:TS):TS:=fun D σ H=>∃ W:Nat→L2.St→Hp→Prop,(∃ m,W m σ H)∧∀ m σ H,W m σ H →
  c σ H fun b H1=>Br b (tb { D with nx:=fun σ' H'=>∃ m',m' < m∧W m' σ' H',ct:=fun σ' H'=>∃ m',m' < m∧W m' σ' H',bk:=D.nx } σ H1) (D.nx σ H1)
theorem s_while {c:Expr} {body:List Stmt} {tc:TT} {tb:TS} (hp:PassesOwn (model X.prog X.w) X.A X.env X.xe) (hc:PT X c tc) (hb:PSs X body tb):PS X (.While c body [] pos) (dWhile tc tb):=by
  intro pins s σ H D I h
  obtain ⟨W, ⟨m0, w0⟩, turn⟩ := h
  refine wpAny_While (codeAny_whileLoop (fun n s'=>∃ σ' H',Inv X pins σ' H' s'∧W n σ' H') ?_ m0 ⟨σ,H,I,w0⟩)
  rintro n s1 ⟨σ1, H1, I1, w1⟩
  refine wpAny_passesOwn hp (thn (hc pins s1 σ1 H1 _ I1 (turn n σ1 H1 w1)) fun b s2 ⟨H2,I2,q2⟩=>?_)
  cases b with
  | true =>
    have q2 := q2.1 rfl
    rw [if_pos rfl]
    refine wpAny_passesOwn hp (thn (hb pins s2 σ1 H2 _ I2 q2) fun f s3 q3=>?_)
    cases f with
    | next =>
      obtain ⟨σ3, H3, I3, m', hm, w3⟩ := q3
      exact ⟨m', hm, σ3, H3, I3, w3⟩
    | cont =>
      obtain ⟨σ3, H3, I3, m', hm, w3⟩ := q3
      exact ⟨m', hm, σ3, H3, I3, w3⟩
    | brk => exact q3
    | ret v => exact q3
  | false =>
    rw [if_neg Bool.false_ne_true]
    exact wpAny_execs_nil ⟨σ1, H2, I2, q2.2 rfl⟩
end
structure Dfn (K:PySem.W.Frag) (mg:Str→Option Value) (x:Str) (st:Stmt) (ps:List Str):Prop where
  ex:∃ (f:Addr) (fd:FuncData),Fun K x x st f fd∧mg x = some (.ref f)∧Binds K fd ps []
section
variable {P:Program} {w:World} {K:PySem.W.Frag} {mg:Str→Option Value} {base:Heap}
theorem Dfn.calX {x:Str} {st:Stmt} {N ps:List Str} {k:Nat} {sp:Sp} (d:Dfn K mg x st ps) (S:FnScope N ps (defScope st)) (len:∀ vs H Q E,sp vs H Q E→vs.length = ps.length)
    (hbody:∀ (f:Addr) (cdv:Value) (A:Around) (outer:List Env) (s:Shared) (H:Hp) (vs:List V) (Q:VK) (E:XK),Room k (A.deeper (envOfC x (defScope st) s.heap.objs.size f cdv))→sp vs H Q E →
      ∃ t,PSs (cxOf (CXE P w) P w K mg base N x (defScope st) f cdv A outer s H E) (defBody st) t∧t { nx:=fun _ H'=>Q .non H',rt:=Q } (start N vs) H):Cal P w K mg base x ps (k + 1) sp:=by
  obtain ⟨f, fd, F, hm, hb⟩ := d.ex
  obtain ⟨oc,od,kV,doc,pm,an,cdv,ct,osl,rfl,lk,hcd⟩:=F.ex
  exact ⟨f,_,hm,F.kp,hb,fn_of lk hcd S len fun A outer s H vs Q E hr hsp=>hbody f cdv A outer s H vs Q E hr hsp,oc,od,osl,lk⟩
theorem Dfn.cal {x:Str} {st:Stmt} {N ps:List Str} {k:Nat} {sp:Sp} (d:Dfn K mg x st ps) (S:FnScope N ps (defScope st)) (len:∀ vs H Q E,sp vs H Q E→vs.length = ps.length)
    (hbody:∀ (f:Addr) (cdv:Value) (A:Around) (outer:List Env) (s:Shared) (H:Hp) (vs:List V) (Q:VK) (E:XK),Room k (A.deeper (envOfC x (defScope st) s.heap.objs.size f cdv))→sp vs H Q E →
      ∃ t,PSs (cxOf (CXE P w) P w K mg base N x (defScope st) f cdv A outer s H E).nox (defBody st) t∧t { nx:=fun _ H'=>Q .non H',rt:=Q } (start N vs) H):Cal P w K mg base x ps (k + 1) sp :=
  d.calX S len fun f cdv A outer s H vs Q E hr hsp => by
    obtain ⟨t,h,q⟩:=hbody f cdv A outer s H vs Q E hr hsp
    exact ⟨t, h.nox, q⟩
def sp_law (K:PySem.W.Frag) (ns:List Int):Sp:=fun vs H Q _=>match vs with
  | [.ref a]=>SqL K H a (ns.map V.int)∧ns.length ≤ 63∧∀ H',Q (.bl true) H'
  | _ => False
def sp_lawA (K:PySem.W.Frag):Sp:=fun vs H Q _=>∃ (ns:List Int) (a:Addr),vs = [.ref a]∧SqL K H a (ns.map V.int)∧ns.length ≤ 63∧∀ H',Q (.bl true) H'
theorem law_fn {k:Nat} {st:Stmt} {f:Addr} {fd:FuncData} (F:Fun K "law" "law" st f fd) (hm:mg "law" = some (.ref f)) (C:∀ ns,Cal P w K mg base "law" ["_law_script"] k (sp_law K ns)):FnOk P w K mg base (CXE P w) k f fd ["_law_script"] (sp_lawA K):=by
  refine ⟨fun vs H Q E h=>?_,fun A outer s H args us vs Q E hr he hb hv hs=>?_⟩
  · obtain ⟨ns, a, rfl, _⟩ := h
    rfl
  · obtain ⟨ns, a, rfl, h1, h2, h3⟩ := hs
    obtain ⟨f',fd',e1,e2,e3,G,oc',od',osl',lk'⟩:=(C ns).ex
    obtain ⟨oc,od,kV,doc,pm,an,cdv,ct,osl,_,lk,_⟩:=F.ex
    rw [hm] at e1
    cases e1
    rw [lk] at lk'
    cases lk'
    exact G.run A outer s H args us _ Q E hr he hb hv ⟨h1,h2,h3⟩
end
theorem sm_sqT {K:PySem.W.Frag} {H H':Hp} {a:Addr} {xs:List V} (e:Same H H') (h:SqT K H a xs):SqT K H' a xs:=by
  rcases h with (h | ⟨o, h⟩) | h
  · exact .inl (.inl (e _ _ h))
  · exact .inl (.inr ⟨o, e _ _ h⟩)
  · exact .inr h
mutual
inductive Rp (K:PySem.W.Frag) (H:Hp):V→PyData→Prop where
  | non : Rp K H .non .none
  | bl (b : Bool) : Rp K H (.bl b) (.bool b)
  | int (i : Int) : Rp K H (.int i) (.int i)
  | str (x : Str) : Rp K H (.str x) (.str x)
  | tup {p:Addr} {xs:List V} {ds:List PyData}:SqT K H p xs→RpL K H xs ds→Rp K H (.ref p) (.tuple ds)
  | lst {p:Addr} {xs:List V} {ds:List PyData}:SqL K H p xs→RpL K H xs ds→Rp K H (.ref p) (.list ds)
inductive RpL (K:PySem.W.Frag) (H:Hp):List V→List PyData→Prop where
  | nil : RpL K H [] []
  | cons {v:V} {d:PyData} {vs:List V} {ds:List PyData}:Rp K H v d→RpL K H vs ds→RpL K H (v :: vs) (d :: ds)
end
mutual
theorem Rp.up {K:PySem.W.Frag} {H H':Hp} (s:Same H H'):∀ {v:V} {d:PyData},Rp K H v d→Rp K H' v d
  | _, _, .non => .non
  | _, _, .bl b => .bl b
  | _, _, .int i => .int i
  | _, _, .str x => .str x
  | _, _, .tup h r => .tup (sm_sqT s h) (RpL.up s r)
  | _, _, .lst h r => .lst (s.seq h) (RpL.up s r)
theorem RpL.up {K:PySem.W.Frag} {H H':Hp} (s:Same H H'):∀ {v:List V} {d:List PyData},RpL K H v d→RpL K H' v d
  | _, _, .nil => .nil
  | _, _, .cons h r => .cons (Rp.up s h) (RpL.up s r)
end
section
variable {X : Cx}
mutual
theorem Rp.reads {pins:List (Addr × Obj)} {σ:L2.St} {H:Hp} {s:Shared} (I:Inv X pins σ H s):∀ {v:V} {d:PyData} {u:Value},Rp X.K H v d→L2.RelV v u→∃ as,Reads s.heap u d as
  | _, _, _, .non, r => by cases r; exact ⟨_, Reads.none⟩
  | _, _, _, .bl b, r => by cases r; exact ⟨_, Reads.bool b⟩
  | _,_,_,.int i,r=>by obtain ⟨t,rfl⟩:=r; exact ⟨_,Reads.int i t⟩
  | _,_,_,.str i,r=>by obtain ⟨t,rfl⟩:=r; exact ⟨_,Reads.str i t⟩
  | _, _, _, .tup h q, r => by
    cases r
    obtain ⟨its, rv, ⟨o, e, c, n, dd⟩, _⟩ := I.tuple h
    obtain ⟨as, ra⟩ := RpL.reads I q rv
    exact ⟨as, reads_tuple_at e c dd (by simpa using ra)⟩
  | _, _, _, .lst h q, r => by
    cases r
    obtain ⟨its, rv, ⟨o, n, e, c, _, dd⟩, _⟩ := I.list h
    obtain ⟨as, ra⟩ := RpL.reads I q rv
    exact ⟨_, reads_list_at e c dd (by simpa using ra)⟩
theorem RpL.reads {pins:List (Addr × Obj)} {σ:L2.St} {H:Hp} {s:Shared} (I:Inv X pins σ H s):∀ {v:List V} {d:List PyData} {u:List Value},RpL X.K H v d→Vals v u→∃ as,ReadsAll s.heap u d as
  | _, _, _, .nil, r => by cases r; exact ⟨_, ReadsAll.nil⟩
  | _, _, _, .cons h q, r => by
    cases r with
    | cons r1 r2 =>
      obtain ⟨as, ra⟩ := Rp.reads I h r1
      obtain ⟨bs, rb⟩ := RpL.reads I q r2
      exact ⟨_, ReadsAll.cons ra rb⟩
end
def dEqD (K:PySem.W.Frag):R2:=fun x y H Q=>∃ d e,Rp K H x d∧Rp K H y e∧SeqAt.shaped d = true∧SeqAt.shaped e = true∧Q (.bl (PyData.eqv d e)) H
def dNeD (K:PySem.W.Frag):R2:=fun x y H Q=>∃ d e,Rp K H x d∧Rp K H y e∧SeqAt.shaped d = true∧SeqAt.shaped e = true∧Q (.bl (!PyData.eqv d e)) H
theorem o_eqD (hu:X.A.units + 64 < cLine):OpR X (compareOp .Eq) (dEqD X.K):=by
  intro pins s σ H x y v u Q I rx ry q
  obtain ⟨d, e, h1, h2, h3, h4, q⟩ := q
  obtain ⟨as, r1⟩ := h1.reads I rx
  obtain ⟨bs, r2⟩ := h2.reads I ry
  exact PyProof.Rows.eq_dataH r1 r2 h3 h4 hu ⟨.bl _,H,I,rfl,q⟩
theorem o_neD (hu:X.A.units + 64 < cLine):OpR X (compareOp .NotEq) (dNeD X.K):=by
  intro pins s σ H x y v u Q I rx ry q
  obtain ⟨d, e, h1, h2, h3, h4, q⟩ := q
  obtain ⟨as, r1⟩ := h1.reads I rx
  obtain ⟨bs, r2⟩ := h2.reads I ry
  exact PyProof.Rows.ne_dataH r1 r2 h3 h4 hu ⟨.bl _,H,I,rfl,q⟩
end
end Lw
end
section
set_option Elab.async false
set_option linter.all false
set_option maxRecDepth 100000
set_option maxHeartbeats 4000000
set_option exponentiation.threshold 5000
namespace Lw
open PySem PySem.Spec PyProof.Rows L2
def cell (ns:List Int) (k:Int):Int:=if ns.length = 0 then 0 else ns.getD (k % (ns.length:Int)).toNat 0
theorem bd_lit {n:Nat} {x:Int} (h:Nat.blt x.natAbs (2 ^ n) = true):Bd n x:=by
  unfold Bd
  exact Nat.lt_of_lt_of_le (Nat.lt_of_succ_le (Nat.le_of_ble_eq_true h)) (Nat.le_refl _)
theorem Bd.mono {m n:Nat} {x:Int} (h:Bd m x) (l:m ≤ n):Bd n x:=Nat.lt_of_lt_of_le h (Nat.pow_le_pow_right (by decide) l)
theorem Bd.mul {m n:Nat} {x y:Int} (h:Bd m x) (l:Bd n y):Bd (m + n) (x * y):=by
  unfold Bd at *
  rw [Int.natAbs_mul, Nat.pow_add]
  by_cases z : y.natAbs = 0
  · rw [z, Nat.mul_zero]
    exact Nat.mul_pos (Nat.pow_pos (by decide)) (Nat.pow_pos (by decide))
  · exact Nat.lt_of_lt_of_le (Nat.mul_lt_mul_of_pos_right h (Nat.pos_of_ne_zero z)) (Nat.mul_le_mul_left _ (Nat.le_of_lt l))
theorem Bd.add {n:Nat} {x y:Int} (h:Bd n x) (l:Bd n y):Bd (n + 1) (x + y):=by
  unfold Bd at *
  have := Int.natAbs_add_le x y
  rw [Nat.pow_succ]
  omega
theorem Bd.neg {n:Nat} {x:Int} (h:Bd n x):Bd n (-x):=by
  unfold Bd at *
  omega
theorem Bd.of_le {n:Nat} {x y:Int} (h:Bd n y) (l:x.natAbs ≤ y.natAbs):Bd n x:=Nat.lt_of_le_of_lt l h
theorem bd_of {x b:Int} {n:Nat} (h1:-b ≤ x) (h2:x ≤ b) (h:Bd n b):Bd n x:=h.of_le (by omega)
def lowT (t b : Int) : Int := t / (Int.gcd t b : Int)
def lowB (t b : Int) : Int := b / (Int.gcd t b : Int)
theorem lowT_mul (t b:Int):lowT t b * (Int.gcd t b:Int) = t:=Int.ediv_mul_cancel (Int.gcd_dvd_left ..)
theorem lowB_mul (t b:Int):lowB t b * (Int.gcd t b:Int) = b:=Int.ediv_mul_cancel (Int.gcd_dvd_right ..)
theorem low_cross (t b:Int):lowT t b * b = t * lowB t b:=by
  have h1 := lowT_mul t b
  have h2 := lowB_mul t b
  calc lowT t b * b = lowT t b * (lowB t b * (Int.gcd t b:Int)):=by rw [h2]
    _ = (lowT t b * (Int.gcd t b:Int)) * lowB t b:=by rw [Int.mul_comm (lowB t b),Int.mul_assoc]
    _ = t * lowB t b := by rw [h1]
theorem natAbs_ediv_le' (x:Int) (g:Nat):(x / (g:Int)).natAbs ≤ x.natAbs:=Int.natAbs_ediv_le_natAbs x g
theorem bd_lowT {n:Nat} {t b:Int} (h:Bd n t):Bd n (lowT t b):=h.of_le (natAbs_ediv_le' ..)
theorem bd_lowB {n:Nat} {t b:Int} (h:Bd n b):Bd n (lowB t b):=h.of_le (natAbs_ediv_le' ..)
structure Fq (n:Nat) (H:Hp) (p:Addr) (a b:Int):Prop where
  at' : H p = some (.tup [.int a, .int b])
  pos : 0 < b
  ba : Bd n a
  bb : Bd n b
theorem Fq.up {n:Nat} {H H':Hp} {p:Addr} {a b:Int} (s:Same H H') (h:Fq n H p a b):Fq n H' p a b:=⟨s _ _ h.at',h.pos,h.ba,h.bb⟩
theorem Fq.mono {m n:Nat} {H:Hp} {p:Addr} {a b:Int} (h:Fq m H p a b) (l:m ≤ n):Fq n H p a b:=⟨h.at',h.pos,h.ba.mono l,h.bb.mono l⟩
abbrev Q2 := Int × Int
def ltQ (x y : Q2) : Bool := decide (x.1 * y.2 < y.1 * x.2)
theorem ltQ_f {x y:Q2}:ltQ x y = false ↔ y.1 * x.2 ≤ x.1 * y.2:=by simp [ltQ]
theorem cok {m n:Nat} {i j:Int} (h:Bd m i) (h':Bd n j) (l:m ≤ 4000) (l':n ≤ 4000):COk i j:=.inl ⟨h.mono l,h'.mono l'⟩
structure Pq (n:Nat) (H:Hp) (r:Addr) (lo:Q2) (hi:Option Q2):Prop where
  ex:∃ l x,H r = some (.tup [.ref l,x])∧Fq n H l lo.1 lo.2∧(hi = none∧x = .non ∨ ∃ q y,hi = some y∧x = .ref q∧Fq n H q y.1 y.2)
theorem gcd_fmod (a b:Int):Int.gcd b (a.fmod b) = Int.gcd a b:=by
  rw [Int.fmod_def,Int.gcd_sub_mul_left_right,Int.gcd_comm]
theorem fmod_lt (a:Int) {b:Int} (h:b ≠ 0):(a.fmod b).natAbs < b.natAbs:=by
  have e0 := Int.emod_nonneg a h
  have e1 := Int.emod_lt a h
  rw [Int.fmod_eq_emod]
  by_cases c : 0 ≤ b ∨ b ∣ a
  · rw [if_pos c]
    omega
  · rw [if_neg c]
    have e2:a % b ≠ 0:=fun z=>c (.inr (Int.dvd_of_emod_eq_zero z))
    have : ¬ 0 ≤ b := fun z => c (.inl z)
    omega
def frT (t b:Int):Int:=if b < 0 then -lowT t b else lowT t b
def frB (t b:Int):Int:=if b < 0 then -lowB t b else lowB t b
def dvs (t b:Int):Int:=if b < 0 then -(Int.gcd t b:Int) else (Int.gcd t b:Int)
theorem gcd_ne (t:Int) {b:Int} (hb:b ≠ 0):0 < (Int.gcd t b:Int):=by
  have:0 < Int.gcd t b:=Int.gcd_pos_of_ne_zero_right _ hb
  omega
theorem dvs_ne (t:Int) {b:Int} (hb:b ≠ 0):dvs t b ≠ 0:=by
  have := gcd_ne t hb
  unfold dvs
  split <;> omega
theorem bd_dvs {n:Nat} (t:Int) {b:Int} (hb:b ≠ 0) (h:Bd n b):Bd n (dvs t b):=by
  have l:=Nat.le_of_dvd (by omega:0 < b.natAbs) (show Int.gcd t b ∣ b.natAbs from Nat.gcd_dvd_right ..)
  refine h.of_le ?_
  unfold dvs
  split <;> omega
theorem fdiv_T (t:Int) {b:Int} (hb:b ≠ 0):t.fdiv (dvs t b) = frT t b:=by
  have g := gcd_ne t hb
  have h := lowT_mul t b
  unfold dvs frT
  split
  · have e:t = (-lowT t b) * (-(Int.gcd t b:Int)):=by rw [Int.neg_mul_neg]; exact h.symm
    exact (congrArg (fun z=>z.fdiv (-(Int.gcd t b:Int))) e).trans (Int.mul_fdiv_cancel _ (by omega))
  · exact (congrArg (fun z=>z.fdiv (Int.gcd t b:Int)) h.symm).trans (Int.mul_fdiv_cancel _ (by omega))
theorem fdiv_B (t:Int) {b:Int} (hb:b ≠ 0):b.fdiv (dvs t b) = frB t b:=by
  have g := gcd_ne t hb
  have h := lowB_mul t b
  unfold dvs frB
  split
  · have e:b = (-lowB t b) * (-(Int.gcd t b:Int)):=by rw [Int.neg_mul_neg]; exact h.symm
    exact (congrArg (fun z=>z.fdiv (-(Int.gcd t b:Int))) e).trans (Int.mul_fdiv_cancel _ (by omega))
  · exact (congrArg (fun z=>z.fdiv (Int.gcd t b:Int)) h.symm).trans (Int.mul_fdiv_cancel _ (by omega))
theorem frB_pos (t:Int) {b:Int} (hb:b ≠ 0):0 < frB t b:=by
  have g := gcd_ne t hb
  have h := lowB_mul t b
  unfold frB
  split
  · refine Int.lt_of_not_ge fun c => ?_
    have:=Int.mul_nonneg (show 0 ≤ lowB t b by omega) (Int.le_of_lt g)
    omega
  · refine Int.lt_of_not_ge fun c => ?_
    have:=Int.mul_nonpos_of_nonpos_of_nonneg c (Int.le_of_lt g)
    omega
theorem fr_cross (t b:Int):frT t b * b = t * frB t b:=by
  have c := low_cross t b
  unfold frT frB
  split
  · rw [Int.neg_mul, Int.mul_neg, c]
  · exact c
theorem bd_frT {n:Nat} {t b:Int} (h:Bd n t):Bd n (frT t b):=by
  have := bd_lowT (b := b) h
  unfold frT
  split
  · exact this.neg
  · exact this
theorem bd_frB {n:Nat} {t b:Int} (h:Bd n b):Bd n (frB t b):=by
  have := bd_lowB (t := t) h
  unfold frB
  split
  · exact this.neg
  · exact this
structure FrAt (H : Hp) (p : Addr) (t b : Int) : Prop where
  at' : H p = some (.tup [.int (frT t b), .int (frB t b)])
theorem FrAt.fq {n:Nat} {H:Hp} {p:Addr} {t b:Int} (h:FrAt H p t b) (hb:b ≠ 0) (h1:Bd n t) (h2:Bd n b):Fq n H p (frT t b) (frB t b):=⟨h.at',frB_pos t hb,bd_frT h1,bd_frB h2⟩
end Lw
end
section
set_option Elab.async false
set_option linter.all false
set_option maxRecDepth 100000
set_option maxHeartbeats 4000000
namespace Lw
open PySem PySem.Spec PyProof.Rows L2
def ItK (kd:Bool) (h:Heap) (it l:Addr) (k:Nat):Prop:=match kd with
  | true => h.IsListIter it l k
  | false => h.IsTupleIter it l k
def SeK (kd:Bool) (h:Heap) (l:Addr) (xs:Array Value):Prop:=match kd with
  | true => h.IsList l xs
  | false => h.IsTuple l xs
def SqK (kd:Bool) (K:PySem.W.Frag) (H:Hp) (a:Addr) (xs:List V):Prop:=match kd with
  | true => SqL K H a xs
  | false => SqT K H a xs
theorem ItK.ob {kd:Bool} {h:Heap} {it l:Addr} {k:Nat} (x:ItK kd h it l k):∃ o,h.get? it = some o∧∀ v,o.data ≠ .cell v:=by
  cases kd with
  | true=>obtain ⟨o,e,_,d⟩:=x; exact ⟨o,e,fun v z=>by rw [d] at z; cases z⟩
  | false=>obtain ⟨o,e,_,d⟩:=x; exact ⟨o,e,fun v z=>by rw [d] at z; cases z⟩
theorem ItK.mv {kd:Bool} {h h':Heap} {it l:Addr} {k:Nat} (x:ItK kd h it l k) (q:∀ o,h.get? it = some o→h'.get? it = some o):ItK kd h' it l k:=by
  cases kd with
  | true => obtain ⟨o, e, r⟩ := x; exact ⟨o, q o e, r⟩
  | false => obtain ⟨o, e, r⟩ := x; exact ⟨o, q o e, r⟩
theorem SeK.mv {kd:Bool} {h h':Heap} {l:Addr} {xs:Array Value} (x:SeK kd h l xs) (q:∀ o,h.get? l = some o→h'.get? l = some o):SeK kd h' l xs:=by
  cases kd with
  | true => obtain ⟨o, e, r⟩ := x; exact ⟨o, q o e, r⟩
  | false => obtain ⟨o, e, r⟩ := x; exact ⟨o, q o e, r⟩
theorem SeK.lt {kd:Bool} {h:Heap} {l:Addr} {xs:Array Value} (x:SeK kd h l xs):l < h.objs.size:=by
  cases kd with
  | true => obtain ⟨o, e, r⟩ := x; exact Heap.lt_size e
  | false => obtain ⟨o, e, r⟩ := x; exact Heap.lt_size e
section
variable {prog:Program} {w:World} {A:Around} {E:Value→Shared→Prop} {s:Shared}
theorem nextK_item {kd:Bool} {it l:Addr} {k:Nat} {xs:Array Value} {x:Value} {Q:Value→Shared→Prop} (h1:ItK kd s.heap it l k) (h2:SeK kd s.heap l xs) (hx:xs[k]? = some x)
    (q:∀ g,ItK kd g it l (k + 1)→Heap.SameBut it s.heap g→Q x { s with heap:=g }):wpAny (model prog w) A (Builtin.SmallTypes.nextOf (.ref it)) Q E s:=by
  cases kd with
  | true => exact wpAny_nextOf_list_item h1 h2 hx q
  | false =>
    have h1' : s.heap.IsTupleIter it l k := h1
    obtain ⟨io, e1, c1, d1⟩ := id h1'
    obtain ⟨lo,e2,_,m2,d2⟩:=(show s.heap.IsTuple l xs from h2)
    have ty := h1'.typeIs
    unfold Builtin.SmallTypes.nextOf; refine wpAny_bind (wpAny_callSpecial?_slot (name:=Str.ofString "__next__") ty F.slot_tuple_iterator_next (wpAny_call_entry F.slot_tuple_iterator_next ty F.entry_tuple_iterator_next ?_ (F.args_tuple_iterator_next_1 _)))
    show wpAny _ _ (field (Value.ref it) 0 >>= _) _ _ _
    refine wpAny_bind (wpAny_field e1 d1 (x:=.ref l) rfl ?_)
    show wpAny _ _ (if (Value.ref l == Value.none) = true then _ else _) _ _ _
    rw [if_neg (show ¬ (Value.ref l == Value.none) = true from Bool.false_ne_true)]
    show wpAny _ _ (field (Value.ref it) 1 >>= _) _ _ _
    refine wpAny_bind (wpAny_field e1 d1 (x:=.int k 0) rfl ?_)
    show wpAny _ _ (seqItems? (Value.ref l) >>= _) _ _ _
    refine wpAny_bind (wpAny_seqItems e2 d2 ?_)
    simp only [Int.toNat_natCast, hx]
    refine wpAny_bind (wpAny_setField e1 d1 (by simp) (wpAny_pure ⟨x,rfl,wpAny_pure (q _ ?_ (Heap.SameBut.update ..))⟩))
    refine ⟨_,Heap.get?_update_self _ e1 (Obj.isFreed_of_fields (Obj.data_mapFields d1 _)),(Obj.cls_mapFields ..).trans c1,?_⟩
    rw [Obj.data_mapFields d1]
    simp [rawInt]
theorem nextK_end {kd:Bool} {it l:Addr} {k:Nat} {xs:Array Value} {Q:Value→Shared→Prop} (hh:A.handled = none) (h1:ItK kd s.heap it l k) (h2:SeK kd s.heap l xs) (hx:xs[k]? = none)
    (q:∀ g e,Heap.ExtBut it s.heap g→(∃ o,g.get? e = some o∧o.cls = .type "StopIteration")→E (.ref e) { s with heap:=g }):wpAny (model prog w) A (Builtin.SmallTypes.nextOf (.ref it)) Q E s:=by
  cases kd with
  | true => exact wpAny_nextOf_list_end hh h1 h2 hx q
  | false =>
    have h1' : s.heap.IsTupleIter it l k := h1
    obtain ⟨io, e1, c1, d1⟩ := id h1'
    obtain ⟨lo,e2,_,m2,d2⟩:=(show s.heap.IsTuple l xs from h2)
    have ty := h1'.typeIs
    unfold Builtin.SmallTypes.nextOf; refine wpAny_bind (wpAny_callSpecial?_slot (name:=Str.ofString "__next__") ty F.slot_tuple_iterator_next (wpAny_call_entry F.slot_tuple_iterator_next ty F.entry_tuple_iterator_next ?_ (F.args_tuple_iterator_next_1 _)))
    show wpAny _ _ (field (Value.ref it) 0 >>= _) _ _ _
    refine wpAny_bind (wpAny_field e1 d1 (x:=.ref l) rfl ?_)
    show wpAny _ _ (if (Value.ref l == Value.none) = true then _ else _) _ _ _
    rw [if_neg (show ¬ (Value.ref l == Value.none) = true from Bool.false_ne_true)]
    show wpAny _ _ (field (Value.ref it) 1 >>= _) _ _ _
    refine wpAny_bind (wpAny_field e1 d1 (x:=.int k 0) rfl ?_)
    show wpAny _ _ (seqItems? (Value.ref l) >>= _) _ _ _
    refine wpAny_bind (wpAny_seqItems e2 d2 ?_)
    simp only [Int.toNat_natCast, hx]
    refine wpAny_bind (wpAny_rule (wpAny_bind (wpAny_setField e1 d1 (by simp) ?_))); show wpAny _ _ (newExc (.type "StopIteration") [] >>= _) _ _ _; refine wpAny_bind ?_; simp only [newExc,newTuple]
    refine wpAny_bind (wpAny_newObj_type ?_ (by size_fits)); refine wpAny_bind (m:=firstArgMember _ _) (wpAny_of_eq (a:=Value.none) (by first | rfl | (simp only [firstArgMember]; rfl)) ?_)
    refine wpAny_newObj_type ?_ (by size_fits); simp only [raiseNew]; refine wpAny_bind (wpAny_handled ?_); first | rw [show A.in1.handled = none from hh] | rw [hh]
    refine wpAny_bind (wpAny_pure (wpAny_throw ?_))
    exact q _ _ (((Heap.SameBut.update ..).extBut.push _).push _) ⟨_,Heap.get?_push_size _ rfl,rfl⟩
structure ZAt (k1 k2:Bool) (z TI TO i1 i2 l1 l2:Addr) (n:Nat) (h:Heap):Prop where
  z : IsZip h z TI TO .none
  ti : IsPair h TI (.ref i1) (.ref i2)
  to : ∃ a b, IsPair h TO a b
  a : ItK k1 h i1 l1 n
  b : ItK k2 h i2 l2 n
theorem zipK_item {k1 k2:Bool} {z TI TO i1 i2 l1 l2:Addr} {n:Nat} {xs ys:Array Value} {x y:Value} {Q:Option Value→Shared→Prop} (D:ZipApart z TI TO i1 i2 l1 l2) (Z:ZAt k1 k2 z TI TO i1 i2 l1 l2 n s.heap)
    (hl1:SeK k1 s.heap l1 xs) (hl2:SeK k2 s.heap l2 ys) (hx:xs[n]? = some x) (hy:ys[n]? = some y)
    (q:∀ g,IsZip g z TI TO (rawInt s.heap.objs.size)→IsPair g TO x y→ItK k1 g i1 l1 (n + 1)→ItK k2 g i2 l2 (n + 1)→IsPair g s.heap.objs.size x y →
      (∀ c o,c ≠ z→c ≠ TO→c ≠ i1→c ≠ i2→s.heap.get? c = some o→g.get? c = some o)→Q (some (.ref s.heap.objs.size)) { s with heap:=g }) :
    wpAny (model prog w) A (pyNext (.ref z)) Q E s := by
  obtain ⟨Zz, Zi, ⟨a, b, Zo⟩, Za, Zb⟩ := Z
  have hT : s.TypeIs (.ref z) "zip" := ⟨_, Zz, rfl⟩
  unfold pyNext; refine wpAny_bind (wpAny_attempt (wpAny_callSpecial?_slot (name:=Str.ofString "__next__") hT F.slot_zip_next (wpAny_call_entry F.slot_zip_next hT F.entry_zip_next ?_ (F.args_zip_next_1 _))))
  show wpAny _ _ (field (Value.ref z) 2 >>= _) _ _ _
  refine wpAny_bind (wpAny_field Zz rfl (x:=.bool false) rfl ?_)
  show wpAny _ _ (field (Value.ref z) 3 >>= _) _ _ _
  refine wpAny_bind (wpAny_field Zz rfl (x:=.ref TI) rfl ?_)
  refine wpAny_bind (wpAny_seqItems Zi rfl ?_)
  show wpAny _ _ (Builtin.SmallTypes.ownedTupleIsFree (Value.ref z) >>= _) _ _ _
  refine wpAny_bind ?_; unfold Builtin.SmallTypes.ownedTupleIsFree
  refine wpAny_bind (wpAny_field Zz rfl (x:=.none) rfl (wpAny_pure ?_)); simp only [if_true]; refine wpAny_bind (wpAny_rule ?_)
  refine wpAny_bind (wpAny_field Zz rfl (x:=.ref TO) rfl ?_)
  refine wpAny_bind (wpAny_setField_rec Zz (by simp) fun g1 z1 s1=>?_)
  have z1 : IsZip g1 z TI TO .ellipsis := z1
  refine wpAny_bind ?_; simp only [List.zipIdx_cons,List.zipIdx_nil,List.forIn_cons,List.forIn_nil]
  refine wpAny_bind (wpAny_bind (wpAny_onRaise ?_)); show wpAny _ _ (Builtin.SmallTypes.nextOf (Value.ref i1) >>= _) _ _ _
  refine wpAny_bind (nextK_item (Za.mv fun o e=>s1.extBut _ _ D.i1z e) (hl1.mv fun o e=>s1.extBut _ _ D.l1z e) hx fun g2 a2 s2=>wpAny_pure ?_)
  have o2:IsPair g2 TO a b:=s2.extBut _ _ D.TOi1 (s1.extBut _ _ D.TOz Zo)
  refine wpAny_bind (wpAny_seqItems o2 rfl ?_)
  refine wpAny_bind (wpAny_updateSeq_pair o2 fun g3 o3 s3=>?_)
  have o3 : IsPair g3 TO x b := o3
  refine wpAny_bind (wpAny_letGo (wpAny_pure ?_))
  refine wpAny_bind (wpAny_bind (wpAny_onRaise ?_)); show wpAny _ _ (Builtin.SmallTypes.nextOf (Value.ref i2) >>= _) _ _ _
  refine wpAny_bind (nextK_item (Zb.mv fun o e=>s3.extBut _ _ D.TOi2.symm (s2.extBut _ _ D.i12.symm (s1.extBut _ _ D.i2z e))) (hl2.mv fun o e=>s3.extBut _ _ D.l2TO (s2.extBut _ _ D.l2i1 (s1.extBut _ _ D.l2z e))) hy fun g4 a4 s4=>wpAny_pure ?_)
  have o4 : IsPair g4 TO x b := s4.extBut _ _ D.TOi2 o3
  refine wpAny_bind (wpAny_seqItems o4 rfl ?_)
  refine wpAny_bind (wpAny_updateSeq_pair o4 fun g5 o5 s5=>?_)
  have o5 : IsPair g5 TO x y := o5
  refine wpAny_bind (wpAny_letGo (wpAny_pure (wpAny_pure ?_)))
  refine wpAny_bind (wpAny_seqItems o5 rfl ?_)
  refine wpAny_bind (wpAny_newTuple ?_)
  have sz:g5.objs.size = s.heap.objs.size:=by rw [s5.1,s4.1,s3.1,s2.1,s1.1]
  have z5:IsZip g5 z TI TO .ellipsis:=s5.extBut _ _ D.TOz.symm (s4.extBut _ _ D.i2z.symm (s3.extBut _ _ D.TOz.symm (s2.extBut _ _ D.i1z.symm z1)))
  have kp:∀ c o,c ≠ z→c ≠ TO→c ≠ i1→c ≠ i2→s.heap.get? c = some o→g5.get? c = some o:=fun c o n1 n2 n3 n4 e=>s5.extBut _ _ n2 (s4.extBut _ _ n4 (s3.extBut _ _ n2 (s2.extBut _ _ n3 (s1.extBut _ _ n1 e))))
  have a5:ItK k1 g5 i1 l1 (n + 1):=a2.mv fun o e=>s5.extBut _ _ D.TOi1.symm (s4.extBut _ _ D.i12 (s3.extBut _ _ D.TOi1.symm e))
  have b5:ItK k2 g5 i2 l2 (n + 1):=a4.mv fun o e=>s5.extBut _ _ D.TOi2.symm e
  have zlt : z < g5.objs.size := Heap.lt_size z5
  show wpAny _ _ (Builtin.SmallTypes.ownedTupleHandOut (Value.ref z) (Value.ref g5.objs.size) >>= _) _ _ _
  refine wpAny_bind ?_; unfold Builtin.SmallTypes.ownedTupleHandOut
  have z6:IsZip (g5.push { cls:=.type "tuple",data:=.seq #[x,y] }) z TI TO .ellipsis:=Heap.get?_push_of_some _ z5
  refine wpAny_bind (wpAny_setField_rec z6 (by simp) fun g7 z7 s7=>?_)
  have z7 : IsZip g7 z TI TO (rawInt g5.objs.size) := z7
  refine wpAny_setField_rec z7 (by simp) fun g8 z8 s8 => ?_
  have z8 : IsZip g8 z TI TO (rawInt g5.objs.size) := z8
  have up:∀ c o,c ≠ z→g5.get? c = some o→g8.get? c = some o:=fun c o n1 e=>s8.extBut _ _ n1 (s7.extBut _ _ n1 (Heap.get?_push_of_some _ e))
  have t8:IsPair g8 g5.objs.size x y:=s8.extBut _ _ (Nat.ne_of_gt zlt) (s7.extBut _ _ (Nat.ne_of_gt zlt) (Heap.get?_push_size _ rfl))
  rw [sz] at z8 t8
  refine wpAny_pure ⟨_, rfl, ?_⟩
  show wpAny _ _ (pure (some (Value.ref g5.objs.size))) _ _ _
  rw [sz]
  exact wpAny_pure (q g8 z8 (up _ _ D.TOz o5) (a5.mv fun o e=>up _ o D.i1z e) (b5.mv fun o e=>up _ o D.i2z e) t8 fun c o n1 n2 n3 n4 e=>up c o n1 (kp c o n1 n2 n3 n4 e))
theorem zipK_end {k1 k2:Bool} {z TI TO i1 i2 l1 l2:Addr} {n:Nat} {xs ys:Array Value} {Q:Option Value→Shared→Prop} (hh:A.handled = none) (D:ZipApart z TI TO i1 i2 l1 l2) (Z:ZAt k1 k2 z TI TO i1 i2 l1 l2 n s.heap)
    (hl1:SeK k1 s.heap l1 xs) (hl2:SeK k2 s.heap l2 ys) (hend:xs[n]? = none ∨ ys[n]? = none)
    (q:∀ g,(∀ c o,c ≠ z→c ≠ TO→c ≠ i1→c ≠ i2→s.heap.get? c = some o→g.get? c = some o)→Q none { s with heap:=g }):wpAny (model prog w) A (pyNext (.ref z)) Q E s:=by
  obtain ⟨Zz, Zi, ⟨a, b, Zo⟩, Za, Zb⟩ := Z
  have hT : s.TypeIs (.ref z) "zip" := ⟨_, Zz, rfl⟩
  unfold pyNext; refine wpAny_bind (wpAny_attempt (wpAny_callSpecial?_slot (name:=Str.ofString "__next__") hT F.slot_zip_next (wpAny_call_entry F.slot_zip_next hT F.entry_zip_next ?_ (F.args_zip_next_1 _))))
  show wpAny _ _ (field (Value.ref z) 2 >>= _) _ _ _
  refine wpAny_bind (wpAny_field Zz rfl (x:=.bool false) rfl ?_)
  show wpAny _ _ (field (Value.ref z) 3 >>= _) _ _ _
  refine wpAny_bind (wpAny_field Zz rfl (x:=.ref TI) rfl ?_)
  refine wpAny_bind (wpAny_seqItems Zi rfl ?_)
  show wpAny _ _ (Builtin.SmallTypes.ownedTupleIsFree (Value.ref z) >>= _) _ _ _
  refine wpAny_bind ?_; unfold Builtin.SmallTypes.ownedTupleIsFree
  refine wpAny_bind (wpAny_field Zz rfl (x:=.none) rfl (wpAny_pure ?_)); simp only [if_true]; refine wpAny_bind (wpAny_rule ?_)
  refine wpAny_bind (wpAny_field Zz rfl (x:=.ref TO) rfl ?_)
  refine wpAny_bind (wpAny_setField_rec Zz (by simp) fun g1 z1 s1=>?_)
  have z1 : IsZip g1 z TI TO .ellipsis := z1
  refine wpAny_bind ?_; simp only [List.zipIdx_cons,List.zipIdx_nil,List.forIn_cons,List.forIn_nil]
  refine wpAny_bind (wpAny_bind (wpAny_onRaise ?_)); show wpAny _ _ (Builtin.SmallTypes.nextOf (Value.ref i1) >>= _) _ _ _
  cases hx : xs[n]? with
  | none =>
    refine wpAny_bind (nextK_end hh (Za.mv fun o e=>s1.extBut _ _ D.i1z e) (hl1.mv fun o e=>s1.extBut _ _ D.l1z e) hx fun g2 e s2 ⟨oe,he,ce⟩=>?_)
    have z2:IsZip g2 z TI TO .ellipsis:=s2 _ _ D.i1z.symm z1
    have ne:e ≠ z:=fun x=>by subst x; rw [z2] at he; cases he; simp at ce
    refine wpAny_setField_rec z2 (by simp) fun g3 _ s3 => ?_
    exact wpAny_bind (wpAny_isInstance (T:="StopIteration") (b:=true) ⟨oe,s3.extBut _ _ ne he,ce⟩ isSubtype_stop (wpAny_pure (q g3 fun c o n1 _ n3 _ x=>s3.extBut _ _ n1 (s2 _ _ n3 (s1.extBut _ _ n1 x)))))
  | some x =>
    have hy:ys[n]? = none:=by rcases hend with h | h; rw [hx] at h; cases h; exact h
    refine wpAny_bind (nextK_item (Za.mv fun o e=>s1.extBut _ _ D.i1z e) (hl1.mv fun o e=>s1.extBut _ _ D.l1z e) hx fun g2 a2 s2=>wpAny_pure ?_)
    have o2:IsPair g2 TO a b:=s2.extBut _ _ D.TOi1 (s1.extBut _ _ D.TOz Zo)
    refine wpAny_bind (wpAny_seqItems o2 rfl ?_)
    refine wpAny_bind (wpAny_updateSeq_pair o2 fun g3 o3 s3=>?_)
    refine wpAny_bind (wpAny_letGo (wpAny_pure ?_))
    refine wpAny_bind (wpAny_bind (wpAny_onRaise ?_)); show wpAny _ _ (Builtin.SmallTypes.nextOf (Value.ref i2) >>= _) _ _ _
    refine wpAny_bind (nextK_end hh (Zb.mv fun o e=>s3.extBut _ _ D.TOi2.symm (s2.extBut _ _ D.i12.symm (s1.extBut _ _ D.i2z e))) (hl2.mv fun o e=>s3.extBut _ _ D.l2TO (s2.extBut _ _ D.l2i1 (s1.extBut _ _ D.l2z e))) hy fun g4 e s4 ⟨oe,he,ce⟩=>?_)
    have z4:IsZip g4 z TI TO .ellipsis:=s4 _ _ D.i2z.symm (s3.extBut _ _ D.TOz.symm (s2.extBut _ _ D.i1z.symm z1))
    have ne:e ≠ z:=fun x=>by subst x; rw [z4] at he; cases he; simp at ce
    refine wpAny_setField_rec z4 (by simp) fun g5 _ s5 => ?_
    exact wpAny_bind (wpAny_isInstance (T:="StopIteration") (b:=true) ⟨oe,s5.extBut _ _ ne he,ce⟩ isSubtype_stop (wpAny_pure (q g5 fun c o n1 n2 n3 n4 x=>s5.extBut _ _ n1 (s4 _ _ n4 (s3.extBut _ _ n2 (s2.extBut _ _ n3 (s1.extBut _ _ n1 x)))))))
def itO (kd : Bool) (l : Addr) : Obj := match kd with
  | true=>{ cls:=.type "list_iterator",data:=.fields #[.ref l,.int 0 0] }
  | false=>{ cls:=.type "tuple_iterator",data:=.fields #[.ref l,.int 0 0] }
theorem iterK {kd:Bool} {l:Addr} {xs:Array Value} {Q:Value→Shared→Prop} (h:SeK kd s.heap l xs) (q:Q (.ref s.heap.objs.size) { s with heap:=s.heap.push (itO kd l) }):wpAny (model prog w) A (pyIter (.ref l)) Q E s:=by
  cases kd with
  | true => exact wpAny_pyIter_list h q
  | false => exact wpAny_pyIter_tuple h q
theorem itK_of {kd:Bool} {h:Heap} {i l:Addr} (e:h.get? i = some (itO kd l)):ItK kd h i l 0:=by
  cases kd with
  | true => exact ⟨_, e, rfl, rfl⟩
  | false => exact ⟨_, e, rfl, rfl⟩
end
abbrev zK1 (k1:Bool) (h:Heap) (l1:Addr):Heap:=h.push (itO k1 l1)
abbrev zK2 (k1 k2:Bool) (h:Heap) (l1 l2:Addr):Heap:=(zK1 k1 h l1).push (itO k2 l2)
abbrev zK3 (k1 k2:Bool) (h:Heap) (l1 l2:Addr):Heap:=(zK2 k1 k2 h l1 l2).push { cls:=.type "tuple",data:=.seq #[.ref h.objs.size,.ref (zK1 k1 h l1).objs.size] }
abbrev zK4 (k1 k2:Bool) (h:Heap) (l1 l2:Addr):Heap:=(zK3 k1 k2 h l1 l2).push { cls:=.type "tuple",data:=.seq #[.none,.none] }
abbrev zK5 (k1 k2:Bool) (h:Heap) (l1 l2:Addr):Heap:=(zK4 k1 k2 h l1 l2).push { cls:=.type "zip",data:=.fields #[.none,.bool false,.bool false,.ref (zK2 k1 k2 h l1 l2).objs.size,.ref (zK3 k1 k2 h l1 l2).objs.size] }
theorem zipK_new (k1 k2:Bool) (l1 l2:Addr) (xs ys:Array Value) :
    Meets (Builtin.«zip.__new__» ⟨[.type "zip",.ref l1,.ref l2],[]⟩) (fun _ R s=>SeK k1 s.heap l1 xs∧SeK k2 s.heap l2 ys∧R (.ok (.ret (.ref (zK4 k1 k2 s.heap l1 l2).objs.size))) { s with heap:=zK5 k1 k2 s.heap l1 l2 }) :=
  .of_wp fun prog w A R s h => by
    obtain ⟨hp, g, d, tk, os⟩ := s; obtain ⟨a1, a2, h⟩ := h
    have hsub := sub_zip
    have b1:SeK k1 (Shared.heap ⟨hp,g,d,tk,os⟩) l1 xs:=a1
    have b2:SeK k2 (Shared.heap ⟨hp.push (itO k1 l1),g,d,tk,os⟩) l2 ys:=a2.mv fun o e=>Heap.get?_push_of_some _ e
    wp_walk using iterK b1, iterK b2
    exact ⟨_, rfl, h⟩
section
variable {prog:Program} {w:World} {A:Around} {E:Value→Shared→Prop} {s:Shared}
theorem call_zipK {k1 k2:Bool} {l1 l2:Addr} {xs ys:Array Value} {Q:Value→Shared→Prop} (h1:SeK k1 s.heap l1 xs) (h2:SeK k2 s.heap l2 ys)
    (q:∀ g,ZAt k1 k2 (s.heap.objs.size + 4) (s.heap.objs.size + 2) (s.heap.objs.size + 3) s.heap.objs.size (s.heap.objs.size + 1) l1 l2 0 g→(∀ c o,s.heap.get? c = some o→g.get? c = some o)→Q (.ref (s.heap.objs.size + 4)) { s with heap:=g }) :
    wpAny (model prog w) A (call (.type "zip") [.ref l1,.ref l2]) Q E s:=by
  refine callType_new F.called_zip (by decide) (F.typeCall_zip_2 _ _) (F.newCall_zip_2 _ _) (fun obj=>F.args_object_init_3 obj _ _) F.entry_zip_new (zipK_new k1 k2 l1 l2 xs ys) ⟨h1,h2,?_⟩
  have m1:(zK1 k1 s.heap l1).objs.size = s.heap.objs.size + 1:=Heap.size_push ..
  have m2:(zK2 k1 k2 s.heap l1 l2).objs.size = s.heap.objs.size + 2:=by rw [Heap.size_push,m1]
  have m3:(zK3 k1 k2 s.heap l1 l2).objs.size = s.heap.objs.size + 3:=by rw [Heap.size_push,m2]
  have m4:(zK4 k1 k2 s.heap l1 l2).objs.size = s.heap.objs.size + 4:=by rw [Heap.size_push,m3]
  have fz:∀ l,(itO k1 l).isFreed = false:=fun l=>by cases k1 <;> rfl
  have fz2:∀ l,(itO k2 l).isFreed = false:=fun l=>by cases k2 <;> rfl
  have g5:(zK5 k1 k2 s.heap l1 l2).get? (zK4 k1 k2 s.heap l1 l2).objs.size = some _:=Heap.get?_push_size _ rfl
  have g4:(zK5 k1 k2 s.heap l1 l2).get? (zK3 k1 k2 s.heap l1 l2).objs.size = some _:=Heap.get?_push_of_some _ (Heap.get?_push_size _ rfl)
  have g3:(zK5 k1 k2 s.heap l1 l2).get? (zK2 k1 k2 s.heap l1 l2).objs.size = some _:=Heap.get?_push_of_some _ (Heap.get?_push_of_some _ (Heap.get?_push_size _ rfl))
  have g2:(zK5 k1 k2 s.heap l1 l2).get? (zK1 k1 s.heap l1).objs.size = some (itO k2 l2):=Heap.get?_push_of_some _ (Heap.get?_push_of_some _ (Heap.get?_push_of_some _ (Heap.get?_push_size _ (fz2 _))))
  have g1:(zK5 k1 k2 s.heap l1 l2).get? s.heap.objs.size = some (itO k1 l1):=Heap.get?_push_of_some _ (Heap.get?_push_of_some _ (Heap.get?_push_of_some _ (Heap.get?_push_of_some _ (Heap.get?_push_size _ (fz _)))))
  show _ ∧ _
  rw [m2, m3, m4] at g5
  rw [m1, m2] at g3
  rw [m3] at g4
  rw [m1] at g2
  rw [m4]
  exact ⟨⟨_,g5,rfl⟩,q _ ⟨g5,g3,⟨_,_,g4⟩,itK_of g1,itK_of g2⟩ fun c o x=>Heap.get?_push_of_some _ (Heap.get?_push_of_some _ (Heap.get?_push_of_some _ (Heap.get?_push_of_some _ (Heap.get?_push_of_some _ x))))⟩
end
section
variable {X : Cx}
theorem inv_moved {pins:List (Addr × Obj)} {σ:L2.St} {H:Hp} {s:Shared} {h':Heap} {t':Nat} {fp:List Addr} (I:Inv X pins σ H s) (k:∀ b o,b ∉ fp→s.heap.get? b = some o→h'.get? b = some o) (hf:∀ b ∈ fp,FpOk X pins H b) :
    Inv X pins σ H { s with heap := h', toks := t' } := by
  have nit:∀ b u,H b = some u→b ∉ fp:=fun b u e z=>by rw [(hf b z).1] at e; cases e
  refine I.step (g':=s.gens) (d':=s.drawn) (ch:=fp) (fun b hb=>?_) (fun b o _ _ hc e _=>k b o hc e) (fun b o _ _ hc e _=>⟨o.slots,k b o hc e⟩) (fun _ _ _ _ n=>n) (fun b o hc e=>⟨o,k b o hc e⟩) (fun _ _ e=>e) (fun _ _ _ e=>e)
    (fun b ps e=>⟨#[],by rw [e]; simp⟩) (fun m hm=>?_) (fun b u e=>?_) I.bare
  · obtain ⟨_, f1, f2, f3, f4, f5⟩ := hf b hb
    exact ⟨f3, f1, f4, f5⟩
  · obtain ⟨o, es, ep, ho, r⟩ := hm
    exact ⟨o,es,ep,k _ o (fun z=>(hf _ z).2.1 rfl) ho,r⟩
  · refine (I.hok b u e).stay (fun c v hc q=>k c v ?_ q) (fun _ q=>q) fun _ _ q=>q
    rcases hc with z | z
    · rw [z]; exact nit b u e
    · exact nit c _ z
theorem inv_zipped {pins:List (Addr × Obj)} {σ:L2.St} {H:Hp} {s:Shared} {h':Heap} {t':Nat} {fp:List Addr} {a:Addr} {o:HO} (I:Inv X pins σ H s) (k:∀ b o,b ∉ fp→s.heap.get? b = some o→h'.get? b = some o) (hf:∀ b ∈ fp,FpOk X pins H b)
    (hp:s.heap.objs.size ≤ a) (new:ObjOk X.prog X.w (upd H a o) h' a o):Inv X pins σ (upd H a o) { s with heap:=h',toks:=t' }:=by
  have hn := I.hok.fresh hp
  have nit:∀ b u,H b = some u→b ∉ fp:=fun b u e z=>by rw [(hf b z).1] at e; cases e
  have old:∀ b u,H b = some u→upd H a o b = some u:=fun b u e=>by rw [upd_ne (ne_of_none e hn)]; exact e
  refine I.step (g':=s.gens) (d':=s.drawn) (ch:=fp) (fun b hb=>?_) (fun b o _ _ hc e _=>k b o hc e) (fun b o _ _ hc e _=>⟨o.slots,k b o hc e⟩) (fun b u _ e n=>?_) (fun b o hc e=>⟨o,k b o hc e⟩) (fun b xs e=>old b _ e) (fun b ob u e=>old b _ e)
    (fun b ps e=>⟨#[],by rw [old b _ e]; simp⟩) (fun m hm=>?_) (fun b u e=>?_) I.bare
  · obtain ⟨_, f1, f2, f3, f4, f5⟩ := hf b hb
    exact ⟨f3, f1, f4, f5⟩
  · rw [upd_ne (Nat.ne_of_lt (Nat.lt_of_lt_of_le (Heap.lt_size e) hp))]
    exact n
  · obtain ⟨o, es, ep, ho, r⟩ := hm
    exact ⟨o,es,ep,k _ o (fun z=>(hf _ z).2.1 rfl) ho,r⟩
  · by_cases hb : b = a
    · subst hb; rw [upd_same] at e; cases e; exact new
    · rw [upd_ne hb] at e
      refine (I.hok b u e).stay (fun c v hc q=>k c v ?_ q) (fun c q=>old c _ q) fun c xs q=>old c _ q
      rcases hc with z | z
      · rw [z]; exact nit b u e
      · exact nit c _ z
theorem sq_val {kd:Bool} {pins:List (Addr × Obj)} {σ:L2.St} {H:Hp} {s:Shared} {a:Addr} {xs:List V} (I:Inv X pins σ H s) (h:SqK kd X.K H a xs):∃ its:List Value,Vals xs its∧SeK kd s.heap a its.toArray:=by
  cases kd with
  | true=>obtain ⟨its,r,p,_⟩:=I.list h; exact ⟨its,r,p.isList⟩
  | false=>obtain ⟨its,r,p,_⟩:=I.tuple h; exact ⟨its,r,p⟩
theorem sq_inj {kd:Bool} {pins:List (Addr × Obj)} {σ:L2.St} {H:Hp} {s:Shared} {a:Addr} {xs ys:List V} (I:Inv X pins σ H s) (h:SqK kd X.K H a xs) (h':SqK kd X.K H a ys):xs = ys:=by
  cases kd with
  | true => exact I.list_inj h h'
  | false => exact I.tuple_inj h h'
def Itz (k1 k2:Bool) (K:PySem.W.Frag) (a b:Addr):It :=
  ⟨fun i H=>∃ xs ys x y,SqK k1 K H a xs∧SqK k2 K H b ys∧xs[i]? = some x∧ys[i]? = some y,
   fun i H v H'=>∃ t x y,v = .ref t∧H t = none∧H' = upd H t (.tup [x,y])∧(∀ xs,SqK k1 K H a xs→xs[i]? = some x)∧∀ ys,SqK k2 K H b ys→ys[i]? = some y,
   fun i H=>∃ xs ys,SqK k1 K H a xs∧SqK k2 K H b ys∧(xs.length ≤ i ∨ ys.length ≤ i)⟩
theorem apart_new {n l1 l2:Nat} (h1:l1 < n) (h2:l2 < n):ZipApart (n + 4) (n + 2) (n + 3) n (n + 1) l1 l2:=by
  constructor <;> (show @Ne Nat _ _) <;> omega
theorem turn_zip {P:Program} {w:World} {K:PySem.W.Frag} {es:List Expr} {x1} {pos:Pos} {k1 k2:Bool} {z TI TO i1 i2 a b:Addr} (D:ZipApart z TI TO i1 i2 a b) :
    Turn P w K (.Tuple es x1 pos) (Itz k1 k2 K a b) [z,TI,TO,i1,i2] z (ZAt k1 k2 z TI TO i1 i2 a b) where
  mem := by simp
  obj := fun i h Z c hc => by
    have hc:c = z ∨ c = TI ∨ c = TO ∨ c = i1 ∨ c = i2:=by simpa using hc
    rcases hc with rfl | rfl | rfl | rfl | rfl
    · exact ⟨_, Z.z, fun v e => by cases e⟩
    · exact ⟨_, Z.ti, fun v e => by cases e⟩
    · obtain ⟨u, v, e⟩ := Z.to
      exact ⟨_, e, fun v e => by cases e⟩
    · exact Z.a.ob
    · exact Z.b.ob
  keep := fun i h h' Z k => by
    obtain ⟨u, v, e⟩ := Z.to
    exact ⟨k z (by simp) _ Z.z,k TI (by simp) _ Z.ti,⟨u,v,k TO (by simp) _ e⟩,Z.a.mv fun o q=>k i1 (by simp) o q,Z.b.mv fun o q=>k i2 (by simp) o q⟩
  item := by
    intro X hP hw hK hc i pins s σ H E I hf Z hg
    subst hP hw hK
    obtain ⟨xs, ys, x, y, q1, q2, e1, e2⟩ := hg
    obtain ⟨us, r1, p1⟩ := sq_val I q1
    obtain ⟨vs, r2, p2⟩ := sq_val I q2
    obtain ⟨u, hu, ru⟩ := r1.get e1
    obtain ⟨v, hv, rv⟩ := r2.get e2
    have F := fun c (m : c ∈ [z, TI, TO, i1, i2]) => hf c m
    have hfr:H s.heap.objs.size = none:=I.hok.fresh (Nat.le_refl _)
    refine zipK_item D Z p1 p2 (x:=u) (y:=v) (by simpa using hu) (by simpa using hv) fun g a1 a2 a3 a4 a5 kp=>⟨_,rfl,?_⟩
    have zlt : z < s.heap.objs.size := Heap.lt_size Z.z
    have tlt:TO < s.heap.objs.size:=by obtain ⟨_,_,e⟩:=Z.to; exact Heap.lt_size e
    have ilt:i1 < s.heap.objs.size:=by obtain ⟨_,e,_⟩:=Z.a.ob; exact Heap.lt_size e
    have jlt:i2 < s.heap.objs.size:=by obtain ⟨_,e,_⟩:=Z.b.ob; exact Heap.lt_size e
    refine wpAny_letOwnedTupleGo_zip (s:={ s with heap:=g }) a1 fun g' z' s'=>?_
    have kp':∀ c o,c ≠ z→c ≠ TO→c ≠ i1→c ≠ i2→s.heap.get? c = some o→g'.get? c = some o:=fun c o n1 n2 n3 n4 e=>s'.extBut _ _ n1 (kp c o n1 n2 n3 n4 e)
    have a5':IsPair g' s.heap.objs.size u v:=s'.extBut _ _ (Nat.ne_of_gt zlt) a5
    have I1:Inv X pins σ (upd H s.heap.objs.size (.tup [x,y])) { s with heap:=g' }:=by
      refine inv_zipped I (fp:=[z,TO,i1,i2]) (fun c o hc e=>kp' c o (fun x=>hc (by simp [x])) (fun x=>hc (by simp [x])) (fun x=>hc (by simp [x])) (fun x=>hc (by simp [x])) e) ?_ (Nat.le_refl _) ?_
      · intro c hc
        exact hf c (by simp at hc ⊢; rcases hc with h | h | h | h <;> simp [h])
      · exact ⟨by show 2 ≤ sizeLine; decide,[u,v],.cons ru (.cons rv .nil),⟨_,a5',rfl,_,rfl⟩⟩
    refine ⟨.ref s.heap.objs.size,_,I1,rfl,⟨_,x,y,rfl,hfr,rfl,fun zs hz=>by rw [sq_inj I hz q1]; exact e1,fun zs hz=>by rw [sq_inj I hz q2]; exact e2⟩,?_,?_⟩
    · exact ⟨z',kp' _ _ D.TIz D.TITO D.TIi1 D.TIi2 Z.ti,⟨_,_,s'.extBut _ _ D.TOz a2⟩,a3.mv fun o e=>s'.extBut _ _ D.i1z e,a4.mv fun o e=>s'.extBut _ _ D.i2z e⟩
    · intro c hc
      have hlt : c < s.heap.objs.size := by
        have hc:c = z ∨ c = TI ∨ c = TO ∨ c = i1 ∨ c = i2:=by simpa using hc
        rcases hc with rfl | rfl | rfl | rfl | rfl
        · exact zlt
        · exact Heap.lt_size Z.ti
        · exact tlt
        · exact ilt
        · exact jlt
      rw [upd_ne (Nat.ne_of_lt hlt)]
      exact (hf c hc).1
  done := by
    intro X hP hw hK hc i pins s σ H E I hf Z hg
    subst hP hw hK
    obtain ⟨xs, ys, q1, q2, e⟩ := hg
    obtain ⟨us, r1, p1⟩ := sq_val I q1
    obtain ⟨vs, r2, p2⟩ := sq_val I q2
    have l1 := r1.length
    have l2 := r2.length
    have he:us.toArray[i]? = none ∨ vs.toArray[i]? = none:=by
      rcases e with e | e
      · left
        simp
        omega
      · right
        simp
        omega
    refine zipK_end (I.ok.hd hc) D Z p1 p2 he fun g kp=>⟨rfl,?_⟩
    refine inv_moved I (fp:=[z,TO,i1,i2]) (fun c o hc e=>kp c o (fun x=>hc (by simp [x])) (fun x=>hc (by simp [x])) (fun x=>hc (by simp [x])) (fun x=>hc (by simp [x])) e) ?_
    intro c hc
    exact hf c (by simp at hc ⊢; rcases hc with h | h | h | h <;> simp [h])
  self := fun _ _ _ _ _ Z h => wpAny_pyIter_zip Z.z h
def iZip (k1 k2:Bool) (K:PySem.W.Frag) (ta:TA):TI:=fun σ H R=>ta σ H fun vs H1=>match vs with
  | [.ref a,.ref b]=>(∃ xs,SqK k1 K H1 a xs)∧(∃ ys,SqK k2 K H1 b ys)∧R (Itz k1 k2 K a b) H1
  | _ => False
theorem pi_zip (k1 k2:Bool) {a b:Expr} {ta:TA} {p pos:Pos} {es:List Expr} {x1} {tp:Pos} (hg:Gl X "zip") (hm:X.mg "zip" = none) (ha:PA X [a,b] ta) (hs:starEach [a,b] X.env = [(false,eval a X.env),(false,eval b X.env)]:=by rfl)
    (hs2:starEach [b] X.env = [(false,eval b X.env)]:=by rfl):PI X (.Tuple es x1 tp) (.Call (.Name "zip" p) [a,b] [] pos) (iZip k1 k2 X.K ta):=by
  intro pins s σ H R I h
  refine Call_ (ld_blt I hg hm boot_zip (PyProof.Rows.callWith_type1 (thn (ha pos pins s σ H _ I h) fun us s1 ⟨vs,H1,I1,r1,q1⟩=>?_) (by rw [hs,hs2]) (by rw [hs2]; rfl)))
  match vs, q1 with
  | [.ref l1, .ref l2], ⟨⟨xs, hx⟩, ⟨ys, hy⟩, q⟩ =>
    obtain ⟨u, v, rfl, e1, e2⟩ := vals2 r1
    cases (show u = Value.ref l1 from e1)
    cases (show v = Value.ref l2 from e2)
    obtain ⟨us', _, p1⟩ := sq_val I1 hx
    obtain ⟨vs', _, p2⟩ := sq_val I1 hy
    have lt1 := p1.lt
    have lt2 := p2.lt
    refine call_zipK p1 p2 fun g Z kp=>wpAny_pyIter_zip (s:={ s1 with heap:=g }) Z.z ?_
    have I2:Inv X pins σ H1 { s1 with heap:=g }:=I1.kept (t':=s1.toks) kp
    refine ⟨_,[s1.heap.objs.size + 4,s1.heap.objs.size + 2,s1.heap.objs.size + 3,s1.heap.objs.size,s1.heap.objs.size + 1],_,_,H1,rfl,I2,turn_zip (apart_new lt1 lt2),Z,fun c hc=>?_,q⟩
    have hc : @LE.le Nat _ s1.heap.objs.size c := by
      have hc:c = s1.heap.objs.size + 4 ∨ c = s1.heap.objs.size + 2 ∨ c = s1.heap.objs.size + 3 ∨ c = s1.heap.objs.size ∨ c = s1.heap.objs.size + 1:=by simpa using hc
      rcases hc with h | h | h | h | h <;> rw [h] <;> first | exact Nat.le_refl _ | exact Nat.le_add_right _ _
    exact I1.fpOk hc (I1.hok.fresh hc)
end
section
variable {X : Cx}
def dCatL : R2 := fun x y H Q => match x, y with
  | .ref l,.ref b=>∃ xs zs,H l = some (.lst xs)∧H b = some (.lst zs)∧xs.length + zs.length ≤ 1000∧∀ p H',Same H H'→H' p = some (.lst (xs ++ zs))→Q (.ref p) H'
  | _, _ => False
theorem o_catL : OpR X (binaryOp .Add) dCatL := by
  intro pins s σ H x y v u Q I rx ry q
  cases x <;> cases y <;> first
    | exact False.elim q
    | (obtain ⟨xs, zs, h1, h2, h3, q⟩ := q
       exact op_cat _ _ _ _ _ _ _ _ _ I rx ry ⟨_,_,xs,zs,rfl,rfl,h1,h2,Nat.le_trans h3 (by decide),fun p hp=>q p _ (same_upd hp) upd_same⟩)
def dSlL (K:PySem.W.Frag):V→Option Int→Option Int→Hp→VK→Prop:=fun x lo hi H Q=>match x with
  | .ref a=>∃ xs,SqL K H a xs∧∀ p H',Same H H'→H' p = some (.lst (cutV xs lo hi))→Q (.ref p) H'
  | _ => False
theorem sl_lst : SlR X (dSlL X.K) := by
  intro pins s σ H x v vl vu lo hi sl Q I rx hs pl pu h
  cases x <;> first
    | exact False.elim h
    | (obtain ⟨xs, h1, q⟩ := h
       exact sl_list _ _ _ _ _ _ _ _ _ _ _ _ I rx hs pl pu ⟨_,xs,rfl,h1,fun p hp=>q p _ (same_upd hp) upd_same⟩)
end
end Lw
end
section
set_option Elab.async false
set_option linter.all false
set_option maxRecDepth 100000
set_option maxHeartbeats 4000000
namespace Lw
open PySem PySem.Spec PyProof.Rows L2
section
variable {X : Cx} {pos : Pos}
end
end Lw
end
section
set_option Elab.async false
set_option linter.all false
set_option maxRecDepth 100000
set_option maxHeartbeats 4000000
namespace Lw
open PySem PySem.Spec PyProof.Rows L2
section
variable {prog:Program} {w:World} {A:Around} {R:Result→Shared→Prop} {s:Shared}
theorem turn_eq (elt tg iter:Expr) (scope:Scope) (pos:Pos) (it acc:Value) (env:Env) :
    compTurn (.ListComp elt [⟨tg,iter,[],0⟩] scope pos) 0 it acc env = (standAt iter.pos >>= fun _=>pyNext it >>= fun r=>match r with
      | none => pure (.done .next)
      | some v=>letOwnedTupleGo tg it v >>= fun _=>assign tg env v >>= fun _=>(eval elt env >>= fun x=>call (.builtin "list.append") [acc,x] >>= fun _=>pure ()) >>= fun _=>again (.compLoop (.ListComp elt [⟨tg,iter,[],0⟩] scope pos) 0 it acc env)):=rfl
theorem loop_comp {elt tg iter:Expr} {scope:Scope} {pos:Pos} {it acc:Value} {env:Env} (I:Nat→Shared→Prop)
    (turn:∀ n s,I n s→wpAny (model prog w) A (pyNext it) (fun r s1=>(r = none∧R (.ok .next) s1) ∨ ∃ v,r = some v∧wpAny (model prog w) A (letOwnedTupleGo tg it v) (fun _ s2=>wpAny (model prog w) A (assign tg env v) (fun _ s3 =>
      wpAny (model prog w) A (eval elt env) (fun x s4=>wpAny (model prog w) A (call (.builtin "list.append") [acc,x]) (fun _ s5=>∃ m,m < n∧I m s5) (fun _ _=>False) s4) (fun _ _=>False) s3) (fun _ _=>False) s2) (fun _ _=>False) s1) (fun _ _=>False) s)
    (n:Nat) (h:I n s):codeAny (model prog w) A (.compLoop (.ListComp elt [⟨tg,iter,[],0⟩] scope pos) 0 it acc env) R s:=by
  refine codeAny_loop rfl I (fun n s hI => ?_) n h
  show wpAny _ _ ((compTurn (.ListComp elt [⟨tg,iter,[],0⟩] scope pos) 0 it acc env).onRaise (fun x=>do noteFrame x env; theTreesLotGoes x)) _ _ s
  refine wpAny_noted ?_
  rw [turn_eq]
  refine wpAny_bind (wpAny_standAt (wpAny_bind (wpAny_mono (turn n s hI) (fun r s1 h1=>?_) fun _ _ z=>z.elim)))
  rcases h1 with ⟨rfl, h1⟩ | ⟨v, rfl, h1⟩
  · exact wpAny_pure h1
  · refine wpAny_bind (wpAny_mono h1 (fun _ s2 h2=>?_) fun _ _ z=>z.elim)
    refine wpAny_bind (wpAny_mono h2 (fun _ s3 h3=>?_) fun _ _ z=>z.elim)
    refine wpAny_bind (wpAny_bind (wpAny_mono h3 (fun x s4 h4=>?_) fun _ _ z=>z.elim))
    refine wpAny_bind (wpAny_mono h4 (fun _ s5 h5=>?_) fun _ _ z=>z.elim)
    exact wpAny_pure (wpAny_pure ⟨rfl, h5⟩)
end
abbrev cxC (X:Cx) (N:List Str) (s₀:Shared) (H₀:Hp) (env:Env) (fp:List Addr):Cx :=
  { X with N:=N,s₀:=s₀,H₀:=H₀,env:=env,outer:=X.stack,ex:=fp,fn:=fun _=>false,pn:=[],xe:=fun _ _=>False }
structure Cap (X:Cx) (sc:Scope) (cl:List (Str × Addr)) (j:Nat) (y:Str):Prop where
  nm : X.N[j]? = some y
  ko : X.env.kindOf y = some .cell
  ki : sc.names.lookup y = some .cell
  cl : cl.lookup y = X.env.cells.lookup y
def capσ (js:List Nat) (σ:L2.St):L2.St:=js.map fun j=>(σ[j]?).join
@[irreducible] def CGoal (J:It) (g:TG) (te:TE) (k:Nat) (js:List Nat) (σ:L2.St) (H1:Hp) (Q:VK):Prop:=∀ D,H1 D = none→∃ W:Nat→Nat→Hp→Prop,(∃ m,W 0 m (upd H1 D (.lst [])))∧∀ i m H,W i m H →
  (J.stop i H∧Q (.ref D) H) ∨ (J.go i H∧∀ x H',J.yld i H x H'→g x (List.replicate k none ++ capσ js σ) H' fun σ2 H2=>σ2.drop k = capσ js σ∧te σ2 H2 fun v H3=>∃ xs,H3 D = some (.lst xs)∧xs.length < sizeLine∧∃ m',m' < m∧W (i + 1) m' (upd H3 D (.lst (xs ++ [v]))))
def dComp (wi:TI) (g:TG) (te:TE) (k:Nat) (js:List Nat):TE:=fun σ H Q=>wi σ H fun J H1=>CGoal J g te k js σ H1 Q
section
variable {X : Cx}
theorem comp_ok {pins:List (Addr × Obj)} {σ:L2.St} {H:Hp} {s:Shared} {N:List Str} {scope:Scope} {cl:List (Str × Addr)} {C:Addr} {fp:List Addr} (I:Inv X pins σ H s) (hk:scope.kind = .function) (hC:s.heap.objs.size ≤ C)
    (hcl:∀ y c,cl.lookup y = some c→X.env.cells.lookup y = some c) (hhas:∀ y,((relabel scope X.env).names.lookup y = some .cell ∨ (relabel scope X.env).names.lookup y = some .free)→∃ c,cl.lookup y = some c)
    (hf:∀ b ∈ fp,FpOk X pins H b∧b < s.heap.objs.size):(cxC X N s H (compEnvC scope cl C X.env) fp).Ok where
  mod := I.ok.mod
  kind := hk
  glob := I.ok.glob
  blt := I.ok.blt
  above := hC
  inj:=fun x y c e1 e2=>I.ok.inj x y c (hcl x c e1) (hcl y c e2)
  has := fun x h => hhas x h
  cab := fun x c z => absurd z (by simp)
  hd := I.ok.hd
  frames := I.ok.frames
  stk := .inl rfl
  exf:=fun b hb=>⟨Nat.ne_of_lt (Nat.lt_of_lt_of_le (hf b hb).2 hC),fun x c e=>(hf b hb).1.2.2.2.2.1 x c (hcl x c e)⟩
  bs := I.bs
  bsz := Nat.le_trans I.ok.bsz I.sz
  noex := fun b o e hb => by
    rcases (hf b hb).1.2.2.2.1 with z | z
    · exact I.ok.noex b o e z
    · exact absurd (Nat.lt_of_lt_of_le (Heap.lt_size (I.ok.bs b o e).1) z) (Nat.lt_irrefl _)
  exfs := fun b hb hm => by
    rcases List.mem_cons.mp (I.stkSub b hm) with z | z
    · exact (hf b hb).1.2.1 z
    · exact (hf b hb).1.2.2.1 z
  funs := I.stack
  frf := I.stkFree
theorem comp_core {elt iter tg:Expr} {scope:Scope} {pos:Pos} {wi:TI} {te:TE} {g:TG} {N:List Str} {cl:List (Str × Addr)} (k:Nat) (js:List Nat) (hi:PI X tg iter wi)
    (hg:∀ C s H fp,PG (cxC X N s H (compEnvC scope cl C X.env) fp) tg g) (he:∀ C s H fp,PE (cxC X N s H (compEnvC scope cl C X.env) fp) elt te) (hcalm:X.calm = true)
    (hclos:closureFor scope X.env = pure cl) (hkind:scope.kind = .function) (hcell:∀ y ∈ scope.names,y.2 ≠ .cell) (hnames:∀ y ∈ scope.names,y.2 = .local→scope.names.lookup y.1 = some .local)
    (hcl:∀ y c,cl.lookup y = some c→X.env.cells.lookup y = some c) (hhas:∀ y,((relabel scope X.env).names.lookup y = some .cell ∨ (relabel scope X.env).names.lookup y = some .free)→∃ c,cl.lookup y = some c)
    (hlen:N.length = k + js.length) (hcap:∀ i j,js[i]? = some j→∃ y,N[k + i]? = some y∧Cap X (relabel scope X.env) cl j y)
    (hs:∀ x,foldedSetIterable iter X.env x = pure x) {pins:List (Addr × Obj)} {s:Shared} {σ:L2.St} {H:Hp} {Q:VK} (I:Inv X pins σ H s) (h:dComp wi g te k js σ H Q) {cpos:Pos} {use:Option (Value→Sem Unit)} {Qv:Value→Shared→Prop}
    (fin:∀ (s6:Shared) (H5:Hp) (D C:Addr) (m:Str→Option Value),Inv X pins σ H5 s6→s6.heap.Ns C m→H5 C = none→X.s₀.heap.objs.size ≤ C→C ≠ X.env.locals→(∀ x c,X.env.cells.lookup x = some c→c ≠ C)→(∀ p ∈ X.pn ++ pins,p.1 ≠ C)→Q (.ref D) H5 →
      compPost (model X.prog X.w) X.A X.xe use Qv (.ref D) C (.ok .next) s6) :
    wpAny (model X.prog X.w) X.A (comprehension (.ListComp elt [⟨tg,iter,[],0⟩] scope pos) scope X.env cpos (newList []) false (eval iter X.env) use) Qv X.xe s:=by
  refine wpAny_comprehension_free (use:=use) rfl hs hclos hkind hnames (thn (hi pins s σ H _ I h) fun v s1 h1=>thn h1 fun itv s2 h2=>?_)
  obtain ⟨it, fp, tn, J, H2, rfl, I2, T, st2, f2, h2⟩ := h2
  refine wpAny_newObj_type ?_
  have hD:H2 s2.heap.objs.size = none:=I2.hok.fresh (Nat.le_refl _)
  unfold CGoal at h2
  obtain ⟨W, ⟨m0, w0⟩, turn⟩ := h2 _ hD
  have I3:Inv X pins σ (upd H2 s2.heap.objs.size (.lst [])) { s2 with heap:=s2.heap.push { cls:=.type "list",dict:=none,data:=.seq ([]:List Value).toArray } } :=
    I2.laid (t':=s2.toks) (fun b u e=>Heap.get?_push_of_some _ e) (Nat.le_refl _) ⟨Nat.zero_le _,[],0,.nil,Heap.get?_push_size _ rfl⟩
  have hlt:∀ b ∈ fp,b < s2.heap.objs.size:=fun b hb=>by
    obtain ⟨o, e, _⟩ := T.obj _ _ st2 b hb
    exact Heap.lt_size e
  have f3:∀ b ∈ fp,FpOk X pins (upd H2 s2.heap.objs.size (.lst [])) b:=fun b hb=>⟨by rw [upd_ne (Nat.ne_of_lt (hlt b hb))]; exact (f2 b hb).1,(f2 b hb).2⟩
  have st3:tn 0 (s2.heap.push { cls:=.type "list",dict:=none,data:=.seq ([]:List Value).toArray }):=T.keep _ _ _ st2 fun b hb o e=>Heap.get?_push_of_some _ e
  have hlt3:∀ b ∈ fp,b < (s2.heap.push { cls:=.type "list",dict:=none,data:=.seq ([]:List Value).toArray }).objs.size:=fun b hb=>Nat.lt_of_lt_of_le (hlt b hb) (by rw [Heap.size_push]; exact Nat.le_succ _)
  generalize hs3:({ s2 with heap:=s2.heap.push { cls:=.type "list",dict:=none,data:=.seq ([]:List Value).toArray } }:Shared) = s3 at I3
  have eh:s3.heap = s2.heap.push { cls:=.type "list",dict:=none,data:=.seq ([]:List Value).toArray }:=by rw [← hs3]
  rw [← eh] at st3 hlt3
  generalize hDD : s2.heap.objs.size = D at *
  generalize hH3 : upd H2 D (.lst []) = H3 at *
  clear hs3 eh
  refine wpAny_newFunctionEnv (s:=s3) hcell (by intro y hy; simp at hy) (fun h4 n4 sb4=>?_) hkind
  have Ok:=comp_ok (N:=N) (C:=s3.heap.objs.size) I3 hkind (Nat.le_refl _) hcl hhas fun b hb=>⟨f3 b hb,hlt3 b hb⟩
  show codeAny _ _ (.compStart (.ListComp elt [⟨tg,iter,[],0⟩] scope pos) 0 (.ref it) (.ref D) (compEnvC scope cl s3.heap.objs.size X.env)) _ _
  generalize hC : s3.heap.objs.size = C at *
  have old:∀ b o,s3.heap.get? b = some o→h4.get? b = some o:=fun b o e=>sb4.extBut b o (by rw [← hC]; exact Nat.ne_of_lt (Heap.lt_size e)) (Heap.get?_push_of_some _ e)
  have fresh:H3 C = none:=I3.hok.fresh (by rw [hC]; exact Nat.le_refl _)
  have hcapl:∀ {i:Nat} {x:Str} {v:V},N[i]? = some x→(List.replicate k none ++ capσ js σ)[i]? = some (some v)→∃ u,L2.RelV v u∧Look (compEnvC scope cl C X.env) h4 (fun _=>none) x u:=by
    intro i x v e1 e2
    by_cases hik : i < k
    · rw [List.getElem?_append_left (by simpa using hik)] at e2
      rw [List.getElem?_replicate] at e2
      simp [hik] at e2
    · rw [List.getElem?_append_right (by simpa using Nat.le_of_not_lt hik),List.length_replicate] at e2
      unfold capσ at e2
      rw [List.getElem?_map] at e2
      cases ej : js[i - k]? with
      | none =>
        rw [ej] at e2
        cases e2
      | some j =>
        rw [ej] at e2
        have e2:(σ[j]?).join = some v:=Option.some.inj e2
        obtain ⟨y, hy, cp⟩ := hcap _ _ ej
        rw [show k + (i - k) = i by omega, e1] at hy
        cases hy
        obtain ⟨m, _, hl⟩ := I3.loc
        have e3 : σ[j]? = some (some v) := by
          cases q : σ[j]? with
          | none =>
            rw [q] at e2
            cases e2
          | some o =>
            rw [q] at e2
            have : o = some v := e2
            rw [this]
        obtain ⟨u,ru,lk⟩:=hl j x v cp.nm e3 (.inr (.inl cp.ko))
        refine ⟨u, ru, ?_⟩
        rcases lk with ⟨z, _⟩ | ⟨_, c, hc, z⟩
        · rw [cp.ko] at z
          cases z
        · refine .inr ⟨.inl cp.ki,c,by rw [← hc]; exact cp.cl,?_⟩
          obtain ⟨o, e, d⟩ := z
          exact ⟨o, old _ _ e, d⟩
  have I4:Inv (cxC X N s3 H3 (compEnvC scope cl C X.env) fp) [] (List.replicate k none ++ capσ js σ) H3 { s3 with heap:=h4,toks:=s3.toks + ([]:List (Str × Value)).length }:=by
    refine ⟨Ok,rfl,I3.bare,Un.kept old,⟨_,n4,fun i x v e1 e2 e3=>?_⟩,fun x c e=>?_,fresh,fun x c e=>I3.freeC x c (hcl x c e),fun p hp=>absurd hp (by simp),I3.hok.kept old,?_⟩
    · obtain ⟨u, ru, lk⟩ := hcapl e1 e2
      refine ⟨u, ru, ?_⟩
      rcases lk with ⟨z, q⟩ | q
      · cases q
      · exact .inr q
    · obtain ⟨v, o, e1, d⟩ := I3.cell x c (hcl x c e)
      exact ⟨v, o, old _ _ e1, d⟩
    · simp [capσ, hlen]
  have fp4:∀ {H':Hp},(∀ b ∈ fp,H' b = none)→∀ b ∈ fp,FpOk (cxC X N s3 H3 (compEnvC scope cl C X.env) fp) [] H' b:=fun hn b hb =>
    ⟨hn b hb,(Ok.exf b hb).1,Ok.exfs b hb,.inl hb,fun x c e=>(Ok.exf b hb).2 x c e,fun p hp=>absurd hp (by simp)⟩
  have st4:tn 0 h4:=T.keep _ _ _ st3 fun b hb o e=>old b o e
  have run:∀ s4:Shared,s4 = { s3 with heap:=h4,toks:=s3.toks + ([]:List (Str × Value)).length } →
      codeAny (model X.prog X.w) X.A (.compLoop (.ListComp elt [⟨tg,iter,[],0⟩] scope pos) 0 (.ref it) (.ref D) (compEnvC scope cl C X.env)) (compPost (model X.prog X.w) X.A X.xe use Qv (.ref D) C) s4:=by
    rintro s4 rfl
    refine loop_comp (fun n s'=>∃ i H' σ',Inv (cxC X N s3 H3 (compEnvC scope cl C X.env) fp) [] σ' H' s'∧(∀ j:Nat,∀ v,(List.replicate k none ++ capσ js σ)[j]? = some (some v)→σ'[j]? = some (some v))∧tn i s'.heap∧(∀ b ∈ fp,H' b = none)∧W i n H') ?_ m0
      ⟨0,H3,_,I4,fun _ _ z=>z,st4,fun b hb=>(f3 b hb).1,w0⟩
    rintro n s5 ⟨i, H5, σ5, I5, cap5, st5, fr5, w5⟩
    have I5':=I5.weak (σ':=List.replicate k none ++ capσ js σ) (by rw [I5.len]; simp [capσ,hlen]) cap5
    rcases turn i n H5 w5 with ⟨stop, q⟩ | ⟨go, step⟩
    · refine thn (T.done (cxC X N s3 H3 (compEnvC scope cl C X.env) fp) rfl rfl rfl hcalm i [] s5 σ5 H5 _ I5 (fp4 fr5) st5 stop) fun r s6 ⟨hr,I6⟩=>.inl ⟨hr,?_⟩
      obtain ⟨m6, n6, _⟩ := I6.loc
      have hCf : H5 C = none := I6.free
      have u6 := I6.base
      have uC:Un (frs X.stack) fp H3 H5 s3.heap s6.heap:=⟨u6.keep,u6.slot,u6.free,u6.there,u6.tups,u6.frzs,u6.tbls⟩
      have I7:Inv X pins σ H5 s6:=I3.call' (s':=s6) I6.os uC I6.hok I6.bare fun b hb=>⟨(f3 b hb).2.2.2.1,(f3 b hb).2.1,(f3 b hb).2.2.2.2.1,(f3 b hb).2.2.2.2.2⟩
      have lt3:∀ b o,s3.heap.get? b = some o→b ≠ C:=fun b o e=>by rw [← hC]; exact Nat.ne_of_lt (Heap.lt_size e)
      refine fin s6 H5 D C m6 I7 n6 hCf (by rw [← hC]; exact I3.sz) (by rw [← hC]; exact Nat.ne_of_gt I3.lt) (fun x c e=>?_) (fun p hp=>lt3 p.1 p.2 (I3.pin p hp).1) q
      obtain ⟨v, o, e1, _⟩ := I3.cell x c e
      exact lt3 c o e1
    · refine thn (T.item (cxC X N s3 H3 (compEnvC scope cl C X.env) fp) rfl rfl rfl hcalm i [] s5 _ H5 _ I5' (fp4 fr5) st5 go) fun r s6 ⟨u,hr,h6⟩=>.inr ⟨u,hr,?_⟩
      refine thn h6 fun _ s7 ⟨x,H7,I7,r7,y7,st7,fr7⟩=>?_
      have I7' := I7.pinned (fp4 fr7) (T.obj _ _ st7)
      refine thn (hg C s3 H3 fp _ s7 _ H7 x u _ I7' r7 (step x H7 y7)) fun _ s8 ⟨σ8,H8,I8,d8,q8⟩=>?_
      refine thn (he C s3 H3 fp _ s8 σ8 H8 _ I8 q8) fun vv s9 ⟨vx,H9,I9,r9,xs,hx9,hz9,m',hm',w9⟩=>?_
      obtain ⟨z9,its,n9,rl,e9⟩:=(show ObjOk X.prog X.w H9 s9.heap D (.lst xs) from I9.hok D _ hx9)
      have app:=mt_append (X:=cxC X N s3 H3 (compEnvC scope cl C X.env) fp) _ s9 σ8 H9 (.ref D) [vx] (.ref D) [vv] (fun _ H'=>H' = upd H9 D (.lst (xs ++ [vx]))) I9 rfl (.cons r9 .nil) ⟨D,xs,vx,rfl,rfl,hx9,hz9,rfl⟩
      refine thn app fun _ s10 ⟨_, H10, I10, _, e10⟩ => ?_
      subst e10
      refine ⟨m',hm',i + 1,_,σ8,I10.unpinned (pins:=[]),?_,T.keep _ _ _ st7 fun b hb o e=>(I10.pin (b,o) (List.mem_append_right _ (List.mem_append_right _ (mem_pinsAt hb e)))).1,fun b hb=>?_,w9⟩
      · intro j v e
        by_cases hjk : j < k
        · rw [List.getElem?_append_left (by simpa using hjk),List.getElem?_replicate] at e
          simp [hjk] at e
        · rw [List.getElem?_append_right (by simpa using Nat.le_of_not_lt hjk),List.length_replicate,← d8,List.getElem?_drop] at e
          rw [show k + (j - k) = j by omega] at e
          exact e
      · obtain ⟨o, e, d⟩ := T.obj _ _ st7 b hb
        exact (I10.pin (b,o) (List.mem_append_right _ (List.mem_append_right _ (mem_pinsAt hb e)))).2.1
  exact codeAny_compStart_list (run _ rfl) (T.self X.A 0 _ _ _ st4 (run _ rfl))
theorem e_comp {elt iter tg:Expr} {scope:Scope} {pos:Pos} {wi:TI} {te:TE} {g:TG} {N:List Str} {cl:List (Str × Addr)} (k:Nat) (js:List Nat) (hi:PI X tg iter wi)
    (hg:∀ C s H fp,PG (cxC X N s H (compEnvC scope cl C X.env) fp) tg g) (he:∀ C s H fp,PE (cxC X N s H (compEnvC scope cl C X.env) fp) elt te) (hcalm:X.calm = true)
    (hclos:closureFor scope X.env = pure cl) (hkind:scope.kind = .function) (hcell:∀ y ∈ scope.names,y.2 ≠ .cell) (hnames:∀ y ∈ scope.names,y.2 = .local→scope.names.lookup y.1 = some .local)
    (hcl:∀ y c,cl.lookup y = some c→X.env.cells.lookup y = some c) (hhas:∀ y,((relabel scope X.env).names.lookup y = some .cell ∨ (relabel scope X.env).names.lookup y = some .free)→∃ c,cl.lookup y = some c)
    (hlen:N.length = k + js.length) (hcap:∀ i j,js[i]? = some j→∃ y,N[k + i]? = some y∧Cap X (relabel scope X.env) cl j y)
    (hs:∀ x,foldedSetIterable iter X.env x = pure x:=by intro _; rfl):PE X (.ListComp elt [⟨tg,iter,[],0⟩] scope pos) (dComp wi g te k js):=by
  intro pins s σ H Q I h
  rw [eval_ListComp]
  refine comp_core k js hi hg he hcalm hclos hkind hcell hnames hcl hhas hlen hcap hs I h fun s6 H5 D C m I6 n6 z1 z2 z3 z4 z5 q=>⟨m,n6,fun h7 sb7=>⟨.ref D,H5,?_,rfl,q⟩⟩
  exact I6.turned (t':=s6.toks) (fun b o hb e=>(sb7.2 b hb).trans e) z1 z3.symm.symm (.inr z2) z4 z5
theorem ps_comp0 {elt iter tg:Expr} {scope:Scope} {pos py spos:Pos} {i:Nat} {y:Str} {wi:TI} {te:TE} {g:TG} {N:List Str} {cl:List (Str × Addr)} (k:Nat) (js:List Nat) (hi:PI X tg iter wi)
    (hg:∀ C s H fp,PG (cxC X N s H (compEnvC scope cl C X.env) fp) tg g) (he:∀ C s H fp,PE (cxC X N s H (compEnvC scope cl C X.env) fp) elt te) (hcalm:X.calm = true)
    (hclos:closureFor scope X.env = pure cl) (hkind:scope.kind = .function) (hcell:∀ y ∈ scope.names,y.2 ≠ .cell) (hnames:∀ y ∈ scope.names,y.2 = .local→scope.names.lookup y.1 = some .local)
    (hcl:∀ y c,cl.lookup y = some c→X.env.cells.lookup y = some c) (hhas:∀ y,((relabel scope X.env).names.lookup y = some .cell ∨ (relabel scope X.env).names.lookup y = some .free)→∃ c,cl.lookup y = some c)
    (hlen:N.length = k + js.length) (hcap:∀ i j,js[i]? = some j→∃ y,N[k + i]? = some y∧Cap X (relabel scope X.env) cl j y)
    (hs:∀ x,foldedSetIterable iter X.env x = pure x) (hN:X.N.Nodup) (hi':X.N[i]? = some y) (hy:X.env.scope.names.lookup y = some .local) (hsw:swapsWith (.ListComp elt [⟨tg,iter,[],0⟩] scope pos) (some (.Name y py)) spos.line X.env = pure true) :
    PS X (.Assign [.Name y py] (.ListComp elt [⟨tg,iter,[],0⟩] scope pos) spos) (tAsg (dComp wi g te k js) (gName i)):=by
  intro pins s σ H D I h
  rw [exec_Assign_Name_used _ _ _ _ hsw]
  refine wpAny_bind (wpAny_standAt (wpAny_bind ?_))
  show wpAny _ X.A (do let _ ← comprehension (.ListComp elt [⟨tg,iter,[],0⟩] scope pos) scope X.env _ (newList []) false (eval iter X.env) (some (assign (.Name y py) X.env))) _ _ s
  refine wpAny_bind (wpAny_mono (comp_core k js hi hg he hcalm hclos hkind hcell hnames hcl hhas hlen hcap hs (use:=some (assign (.Name y py) X.env)) (Qv:=fun _ s'=>SP X pins D .next s') I h fun s6 H5 D' C m I6 n6 z1 z2 z3 z4 z5 q=>?_)
    (fun _ s' hq=>wpAny_pure (wpAny_pure hq)) fun _ _ e=>e)
  show wpAny _ X.A (assign (.Name y py) X.env (.ref D')) _ _ _
  refine wpAny_assign_Name (store_ok2 I6 hN hi' (.inl hy) (v:=.ref D') rfl (fun s8 I8 ⟨a,sb,ha⟩=>?_) (.inr hy))
  have na : C ≠ a := by
    rcases ha with rfl | ha
    · exact z3
    · exact Ne.symm (z4 _ _ ha)
  exact ⟨m,n6.sameBut sb na,fun h9 sb9=>⟨_,H5,I8.turned (t':=s8.toks) (fun b o hb e=>(sb9.2 b hb).trans e) z1 z3 (.inr z2) z4 z5,q⟩⟩
def CapL (X:Cx) (sc:Scope) (cl:List (Str × Addr)):List Str→List Nat→Prop
  | y :: ys, j :: js => Cap X sc cl j y ∧ CapL X sc cl ys js
  | [], [] => True
  | _, _ => False
theorem CapL.len {sc:Scope} {cl:List (Str × Addr)}:∀ {ys:List Str} {js:List Nat},CapL X sc cl ys js→ys.length = js.length
  | [], [], _ => rfl
  | _ :: _, _ :: _, h => congrArg (· + 1) (CapL.len h.2)
  | [], _ :: _, h => h.elim
  | _ :: _, [], h => h.elim
theorem CapL.at {sc:Scope} {cl:List (Str × Addr)}:∀ {ys:List Str} {js:List Nat},CapL X sc cl ys js→∀ (i j:Nat),js[i]? = some j→∃ y,ys[i]? = some y∧Cap X sc cl j y
  | [], [], _, i, j, e => by simp at e
  | y :: ys, j :: js, h, 0, j', e => by
    cases e
    exact ⟨y, rfl, h.1⟩
  | y :: ys,j :: js,h,i + 1,j',e=>CapL.at h.2 i j' (by simpa using e)
  | [], _ :: _, h, _, _, _ => h.elim
  | _ :: _, [], h, _, _, _ => h.elim
def CellL (cells:List (Str × Addr)):List (Str × Addr)→Prop
  | [] => True
  | (y, c) :: r => cells.lookup y = some c ∧ CellL cells r
theorem CellL.at {cells:List (Str × Addr)}:∀ {cl:List (Str × Addr)},CellL cells cl→∀ y c,cl.lookup y = some c→cells.lookup y = some c
  | [], _, y, c, e => by simp at e
  | (z, d) :: r, h, y, c, e => by
    rw [List.lookup_cons] at e
    cases q : y == z with
    | true =>
      rw [q] at e
      cases e
      rw [eq_of_beq q]
      exact h.1
    | false =>
      rw [q] at e
      exact CellL.at h.2 y c e
theorem lookup_has {y:Str}:∀ {cl:List (Str × Addr)},(cl.map (·.1)).contains y = true→∃ c,cl.lookup y = some c
  | [], h => by simp at h
  | (z, d) :: r, h => by
    rw [List.lookup_cons]
    cases q : y == z with
    | true => exact ⟨d, rfl⟩
    | false =>
      refine lookup_has (cl := r) ?_
      rw [List.map_cons,List.contains_cons,q,Bool.false_or] at h
      exact h
theorem relabel_has {env:Env} {y:Str}:∀ {names:List (Str × NameKind)} {k:NameKind},(names.map fun (n,k)=>if (k == NameKind.free && env.scope.kind == .function && env.kindOf n == some .cell) then (n,NameKind.cell) else (n,k)).lookup y = some k →
    (k = .cell ∨ k = .free)→∃ z ∈ names,z.1 = y∧(z.2 = .free ∨ z.2 = .cell)
  | [], _, h, _ => by simp at h
  | (n, kd) :: r, k, h, hk => by
    rw [List.map_cons] at h
    by_cases hc:(kd == NameKind.free && env.scope.kind == .function && env.kindOf n == some .cell) = true
    · rw [show (match (n,kd) with | (n,k)=>if (k == NameKind.free && env.scope.kind == .function && env.kindOf n == some .cell) = true then (n,NameKind.cell) else (n,k)) = (n,NameKind.cell) from if_pos hc,List.lookup_cons] at h
      cases q : y == n with
      | true =>
        rw [Bool.and_eq_true, Bool.and_eq_true] at hc
        exact ⟨(n,kd),List.mem_cons_self,(eq_of_beq q).symm,.inl (eq_of_beq hc.1.1)⟩
      | false =>
        rw [q] at h
        obtain ⟨z, hz, r1⟩ := relabel_has (names := r) h hk
        exact ⟨z, List.mem_cons_of_mem _ hz, r1⟩
    · rw [show (match (n,kd) with | (n,k)=>if (k == NameKind.free && env.scope.kind == .function && env.kindOf n == some .cell) = true then (n,NameKind.cell) else (n,k)) = (n,kd) from if_neg hc,List.lookup_cons] at h
      cases q : y == n with
      | true =>
        rw [q] at h
        cases h
        exact ⟨(n,kd),List.mem_cons_self,(eq_of_beq q).symm,hk.symm⟩
      | false =>
        rw [q] at h
        obtain ⟨z, hz, r1⟩ := relabel_has (names := r) h hk
        exact ⟨z, List.mem_cons_of_mem _ hz, r1⟩
theorem e_compN {elt iter tg:Expr} {scope:Scope} {pos:Pos} {wi:TI} {te:TE} {g:TG} {cl:List (Str × Addr)} (own ys:List Str) (js:List Nat) (hclos:closureFor scope X.env = pure cl) (hi:PI X tg iter wi)
    (hg:∀ C s H fp,PG (cxC X (own ++ ys) s H (compEnvC scope cl C X.env) fp) tg g) (he:∀ C s H fp,PE (cxC X (own ++ ys) s H (compEnvC scope cl C X.env) fp) elt te) (hcalm:X.calm = true) (hkind:scope.kind = .function)
    (hcell:(scope.names.all fun y=>y.2 != .cell) = true) (hnames:(scope.names.all fun y=>y.2 != .local || scope.names.lookup y.1 == some .local) = true) (hfr:(scope.names.all fun y=>y.2 != .free || (cl.map (·.1)).contains y.1) = true)
    (hcl:CellL X.env.cells cl) (hcap:CapL X (relabel scope X.env) cl ys js) (hs:∀ x,foldedSetIterable iter X.env x = pure x:=by intro _; rfl) :
    PE X (.ListComp elt [⟨tg,iter,[],0⟩] scope pos) (dComp wi g te own.length js):=by
  rw [List.all_eq_true] at hcell hnames hfr
  have hc:∀ y ∈ scope.names,y.2 ≠ .cell:=fun y hy z=>by
    have := hcell y hy
    rw [z] at this
    cases this
  refine e_comp own.length js hi hg he hcalm hclos hkind hc (fun y hy z=>?_) hcl.at (fun y h=>?_) (by rw [List.length_append,hcap.len]) (fun i j e=>?_) hs
  · have := hnames y hy
    rw [z] at this
    simpa using this
  · obtain ⟨z,hz,rfl,hk⟩:∃ z ∈ scope.names,z.1 = y∧(z.2 = .free ∨ z.2 = .cell):=by
      rcases h with h | h
      · exact relabel_has h (.inl rfl)
      · exact relabel_has h (.inr rfl)
    rcases hk with hk | hk
    · have := hfr z hz
      rw [hk] at this
      exact lookup_has (by simpa using this)
    · exact absurd hk (hc z hz)
  · obtain ⟨y, h1, h2⟩ := hcap.at i j e
    exact ⟨y,by rw [List.getElem?_append_right (Nat.le_add_right _ _),Nat.add_sub_cancel_left]; exact h1,h2⟩
theorem ps_compN {elt iter tg:Expr} {scope:Scope} {pos py spos:Pos} {i:Nat} {y:Str} {wi:TI} {te:TE} {g:TG} {cl:List (Str × Addr)} (own ys:List Str) (js:List Nat) (hclos:closureFor scope X.env = pure cl) (hi:PI X tg iter wi)
    (hg:∀ C s H fp,PG (cxC X (own ++ ys) s H (compEnvC scope cl C X.env) fp) tg g) (he:∀ C s H fp,PE (cxC X (own ++ ys) s H (compEnvC scope cl C X.env) fp) elt te) (hcalm:X.calm = true) (hkind:scope.kind = .function)
    (hcell:(scope.names.all fun y=>y.2 != .cell) = true) (hnames:(scope.names.all fun y=>y.2 != .local || scope.names.lookup y.1 == some .local) = true) (hfr:(scope.names.all fun y=>y.2 != .free || (cl.map (·.1)).contains y.1) = true)
    (hcl:CellL X.env.cells cl) (hcap:CapL X (relabel scope X.env) cl ys js) (hN:X.N.Nodup) (hi':X.N[i]? = some y) (hy:X.env.scope.names.lookup y = some .local) (hs:∀ x,foldedSetIterable iter X.env x = pure x:=by intro _; rfl) (hsw:swapsWith (.ListComp elt [⟨tg,iter,[],0⟩] scope pos) (some (.Name y py)) spos.line X.env = pure true:=by rfl) :
    PS X (.Assign [.Name y py] (.ListComp elt [⟨tg,iter,[],0⟩] scope pos) spos) (tAsg (dComp wi g te own.length js) (gName i)):=by
  rw [List.all_eq_true] at hcell hnames hfr
  have hc:∀ y ∈ scope.names,y.2 ≠ .cell:=fun y hy z=>by
    have := hcell y hy
    rw [z] at this
    cases this
  refine ps_comp0 own.length js hi hg he hcalm hclos hkind hc (fun y hy z=>?_) hcl.at (fun y h=>?_) (by rw [List.length_append,hcap.len]) (fun i j e=>?_) hs hN hi' hy hsw
  · have := hnames y hy
    rw [z] at this
    simpa using this
  · obtain ⟨z,hz,rfl,hk⟩:∃ z ∈ scope.names,z.1 = y∧(z.2 = .free ∨ z.2 = .cell):=by
      rcases h with h | h
      · exact relabel_has h (.inl rfl)
      · exact relabel_has h (.inr rfl)
    rcases hk with hk | hk
    · have := hfr z hz
      rw [hk] at this
      exact lookup_has (by simpa using this)
    · exact absurd hk (hc z hz)
  · obtain ⟨y, h1, h2⟩ := hcap.at i j e
    exact ⟨y,by rw [List.getElem?_append_right (Nat.le_add_right _ _),Nat.add_sub_cancel_left]; exact h1,h2⟩
end
end Lw
end
section
set_option Elab.async false
set_option linter.all false
set_option maxRecDepth 100000
set_option maxHeartbeats 4000000
namespace Lw
open PySem PySem.Spec PyProof.Rows L2
section
variable {X : Cx} {pos p2 p3 p4 : Pos} {e : Expr} {te : TE}
theorem strs_of:∀ {ys:List Str} {us:List Value},Vals (ys.map V.str) us→StrsAre us ys
  | [], _, r => by
    cases r
    exact .nil
  | y :: ys, _, r => by
    cases r with
    | cons r1 r2 =>
      obtain ⟨t, rfl⟩ := r1
      exact .cons y t (strs_of r2)
def dInS (K:PySem.W.Frag):R2:=fun x y H Q=>match y with
  | .ref p=>∃ xs,(SqL K H p xs ∨ SqT K H p xs)∧flatV x = true∧xs.all flatV = true∧Q (.bl (inV x xs)) H
  | _ => False
theorem o_in : OpR X (compareOp .In) (dInS X.K) := by
  intro pins s σ H x y v u Q I rx ry q
  cases y <;> first
    | exact False.elim q
    | (obtain ⟨xs, h1, h2, h3, q⟩ := q
       exact op_in_seq _ _ _ _ _ _ _ _ _ I rx ry ⟨_,xs,rfl,h1,h2,h3,q⟩)
end
end Lw
end
section
set_option Elab.async false
set_option linter.all false
set_option maxRecDepth 100000
set_option maxHeartbeats 4000000
namespace Lw
open PySem PySem.Spec PyProof.Rows L2
def co (x : Str) : List Nat := x.cps.toList
def abc : Str := Str.ofString "abcdefghijklmnopqrstuvwxyz"
def lt (n : Int) : Nat := 97 + (n % 26).toNat
structure Nm (x : Str) : Prop where
  len1 : 1 ≤ (co x).length
  len8 : (co x).length ≤ 8
  abc : ∀ c ∈ co x, 97 ≤ c ∧ c < 123
end Lw
end
section
set_option Elab.async false
set_option linter.all false
set_option maxRecDepth 100000
set_option maxHeartbeats 4000000
set_option autoImplicit false
namespace Lw
open PySem PySem.Spec PyProof.Rows L2
def vB:List Value:=[.type "ValueError",.type "Exception",.type "BaseException",.type "object"]
def clsIn (K:PySem.W.Frag) (C:Addr):Bool:=match K.lookup C with
  | some ⟨.type "type", _, .cls _, _⟩ => true
  | _ => false
structure ExcC (K : PySem.W.Frag) (C : Addr) : Prop where
  nw : clsIn K C = true
  ga:PySem.W.findIn K (.ref C) "__getattribute__" = some (some (.builtin "BaseException.__getattribute__"))
  gn : PySem.W.findIn K (.ref C) "__getattr__" = some none
  cl:PySem.W.findIn K (.ref C) "__class__" = some (some (.builtin "object.__class__"))
  mo : PySem.W.mroIn K C (.type "object") = some true
  mb : PySem.W.mroIn K C (.type "BaseException") = some true
theorem own_cls {K:PySem.W.Frag} {h:Heap} {mg:Str→Option Value} {x:Str} {C:Addr} {bmB:List Value} {newId:String} (X:K.In h) (b:mg x = some (.ref C)) (q:PySem.W.excIn K C bmB newId = true):OwnCls x C bmB newId mg h:=by
  refine ⟨b, ?_⟩
  unfold PySem.W.excIn at q
  split at q
  · rename_i d0 cd sl lk
    split at q
    · rename_i C' bm a0 a1 a2 a3 n a5 hm hs
      simp only [Bool.and_eq_true,beq_iff_eq,Bool.not_eq_true'] at q
      obtain ⟨⟨⟨⟨⟨e1, e2⟩, hdel⟩, ht⟩, hok⟩, hni⟩ := q
      subst e1 e2
      obtain ⟨nm,bs,mro,ns,qn,hd,sn,sub,ab,col,del⟩:=cd
      dsimp only at hm hdel hok hni
      subst hm hdel
      have e:sl = #[a0,a1,a2,a3,some (.builtin n),a5]:=by
        obtain ⟨l⟩ := sl
        simp only at hs
        rw [hs]
      subst e
      have N0 : h.isNs ns = true := PySem.W.isNs_of_in X hok
      exact ⟨bm,ns,nm,qn,bs,hd,sn,sub,ab,col,d0,a0,a1,a2,a3,a5,_,X _ _ lk,.of_isNs N0,PySem.W.nsMap_none_of_in X hok hni,PySem.W.tail_of_in X ht⟩
    · cases q
  · cases q
theorem exc_lk {K:PySem.W.Frag} {C:Addr} (q:clsIn K C = true):∃ dd cd sl,K.lookup C = some ⟨.type "type",dd,.cls cd,sl⟩:=by
  unfold clsIn at q
  split at q
  · rename_i d0 cd sl lk
    exact ⟨_, _, _, lk⟩
  · cases q
def tRaise (E:XK) (cls:Value):TS:=fun _ _ H=>E cls none H
section
variable {P:Program} {w:World} {K:PySem.W.Frag} {mg:Str→Option Value} {base:Heap} {N:List Str} {qual:Str} {scope:Scope} {f:Addr} {cd:Value} {A:Around} {outer:List Env} {s₀:Shared} {H₀:Hp} {E:XK}
theorem ps_raise {x:Str} {C:Addr} {np cpos pos p:Pos} {txt:Str} {j:Nat} (hb:mg x = some (.ref C)) (c:PySem.W.excIn K C vB "ValueError.__new__" = true) (hg:Gl (cxOf (CXE P w) P w K mg base N qual scope f cd A outer s₀ H₀ E) x) (hd:(x == ("__debug__":Str)) = false:=by decide) :
    PS (cxOf (CXE P w) P w K mg base N qual scope f cd A outer s₀ H₀ E) (.Raise (some (.Call (.Name x np) [.Constant (.str txt) j p] [] cpos)) none pos) (tRaise E (.ref C)):=by
  intro pins s σ H D I h
  have O := own_cls (h := s.heap) I.kIn hb c
  obtain ⟨tl,ns,nm,q,bs,hdct,sn,sub,ab,col,dd,k0,k1,k2,k3,k5,mN,hC,hN,hni,T⟩:=O.obj
  have FB := PySem.F.excBase_ValueError
  refine wpAny_Raise_call_subT (C:=C) (nm:=nm) (q:=q) (N:=ns) (bs:=bs) (bm:=tl) (hdct:=hdct) (sn:=sn) (sub:=sub) (ab:=ab) (col:=col) (dd:=dd) (k0:=k0) (k1:=k1) (k2:=k2) (k3:=k3) (k5:=k5)
    (mN:=mN) FB (T.hasType FB.hasBase) (I.ok.hd rfl) rfl hni (ld_glob I hg hb ⟨rfl,?_⟩ hd)
  refine Calls.evalArgs_plain ?_
  refine spliced_more (Calls.Constant_str (Calls.spliced_nil ?_))
  exact ⟨rfl,(by show 1 ≤ sizeLine; decide),hC,hN,T,fun h' e hx=>raiseX (I.tok _) hx h⟩
end
def dCallX (sp:Sp) (E:XK) (t:TA):TE:=fun σ H Q=>t σ H fun vs H1=>sp vs H1 Q E
section
variable {P:Program} {w:World} {K:PySem.W.Frag} {mg:Str→Option Value} {base:Heap} {N:List Str} {qual:Str} {scope:Scope} {f:Addr} {cd:Value} {A:Around} {outer:List Env} {s₀:Shared} {H₀:Hp} {E:XK}
theorem e_callX {x:Str} {ps:List Str} {k k':Nat} {sp:Sp} {p pos:Pos} {e:Expr} {es:List Expr} {t:TA} (C:Cal P w K mg base x ps k sp) (hr:Room k' (cxOf (CXE P w) P w K mg base N qual scope f cd A outer s₀ H₀ E).A) (hk:k ≤ k') (hg:Gl (cxOf (CXE P w) P w K mg base N qual scope f cd A outer s₀ H₀ E) x)
    (ha:PA (cxOf (CXE P w) P w K mg base N qual scope f cd A outer s₀ H₀ E) (e :: es) t) (hdb:(x == ("__debug__":Str)) = false:=by decide)
    (he:starEach (e :: es) (cxOf (CXE P w) P w K mg base N qual scope f cd A outer s₀ H₀ E).env = (false,eval e (cxOf (CXE P w) P w K mg base N qual scope f cd A outer s₀ H₀ E).env) :: starEach es (cxOf (CXE P w) P w K mg base N qual scope f cd A outer s₀ H₀ E).env:=by rfl)
    (hpl:(backTo pos (starEach es (cxOf (CXE P w) P w K mg base N qual scope f cd A outer s₀ H₀ E).env)).any (·.1) = false:=by rfl) :
    PE (cxOf (CXE P w) P w K mg base N qual scope f cd A outer s₀ H₀ E) (.Call (.Name x p) (e :: es) [] pos) (dCallX sp E t):=by
  obtain ⟨f', fd, h1, h2, h3, h4, _⟩ := C.ex
  have z:=pe_call (X:=cxOf (CXE P w) P w K mg base N qual scope f cd A outer s₀ H₀ E) (pos:=pos) (p:=p) (h4.mono hk) hr hg h1 h2 h3 .nil (passX (E:=E)) ha hdb he hpl
  have e1 : tCall sp [] E t = dCallX sp E t := by
    funext σ H Q
    unfold tCall dCallX
    simp only [List.append_nil]
  rw [e1] at z
  exact z
end
def ExcAt (a C:Addr) (d:Option Addr:=none) (b:Bool:=false):Heap→Prop:=fun h=>∃ o vs,h.get? a = some o∧o.cls = .ref C∧o.data = .fields vs∧o.dict = d∧(∃ v0,vs[0]? = some v0)∧(b = true→vs[1]? = some .none)
section
variable {prog:Program} {w:World} {A:Around} {E:Value→Shared→Prop} {K:PySem.W.Frag} {x C:Addr} {d0:Option Addr} {b0:Bool}
theorem exc_ty {M:Model} {h:Heap} (p:ExcAt x C d0 b0 h):PySem.W.Looks M h (typeOf (.ref x)) (.ref C):=by
  obtain ⟨o, vs, e, c, _⟩ := p
  exact c ▸ (PySem.W.Looks.ld e).andThen .now
theorem exc_gcls {R:Result→Shared→Prop} {s:Shared} {tp:Value} (X:K.In s.heap) (p:ExcAt x C d0 b0 s.heap) (c:ExcC K C) (h:R (.ok (.ret (.ref C))) s) :
    codeAny (model prog w) A (.call (.builtin "getset_descriptor.__get__") ⟨[.builtin "object.__class__",.ref x,tp],[]⟩) R s:=by
  obtain ⟨hh, g, d, t, os⟩ := s
  have l1 := exc_ty (M := model prog w) p
  have l2 := PySem.W.looks_mroIn (M := model prog w) X c.mo
  refine codeAny_call_builtin PySem.W.KF.slot_gs.plain PySem.W.KF.entry_gs ?_
  refine PySem.W.KF.slot_gs.check _ _ _ _ _ _ _ _ PySem.W.KF.type_class (PySem.W.KF.args_gs _ _ _) ?_
  unfold Builtin.«getset_descriptor.__get__» Builtin.Getset_descriptor.descrGet
  rw [PySem.W.dga_obj]
  refine wpAny_bind (wpAny_pure ?_)
  unfold Builtin.Getset_descriptor.descrGetter Builtin.Getset_descriptor.descrCheckInstance
  unfold Builtin.Getset_descriptor.descrNameAndClass isInstance
  simp only [PySem.W.KF.owner_class]
  repeat lk
  refine ⟨Code.quiet_builtin _ (by decide +kernel), ?_⟩
  refine codeAny_builtin PySem.W.KF.entry_class ?_
  unfold Builtin.«object.__class__» shownTypeOf
  repeat lk
  exact h
theorem exc_chk {M:Model} {h:Heap} {g:Array GenState} {d:Drawn} {t:Nat} {os:OsState} {nameV:Value} {Q:Unit→Shared→Prop} (X:K.In h) (p:ExcAt x C d0 b0 h) (c:ExcC K C) (hq:Q () ⟨h,g,d,t,os⟩) :
    wpAny M A (checkBuiltinCall "BaseException.__getattribute__" ⟨[.ref x,nameV],[]⟩) Q E ⟨h,g,d,t,os⟩:=by
  have e1:builtinKind "BaseException.__getattribute__" = some .slot:=by decide +kernel
  have e2:splitId "BaseException.__getattribute__" = some ("BaseException","__getattribute__"):=by decide +kernel
  have l1 := exc_ty (M := M) p
  have l2 := PySem.W.looks_mroIn (M := M) X c.mb
  have l3:PySem.W.Looks M h (isInstance (.ref x) (.type "BaseException")) true:=l1.andThen l2
  have ar := F.args_bexc_ga (.ref x) nameV
  simp only [checkBuiltinCall, e1, e2]
  refine wpAny_bind (l3.at ?_)
  repeat (first | assumption | wp_step)
theorem exc_get {s:Shared} {tk:Tok} {Q:Fin→Shared→Prop} (X:K.In s.heap) (p:ExcAt x C d0 b0 s.heap) (c:ExcC K C) (hq:Q (.done (.ret (.ref C))) s) :
    wpAny (model prog w) A (Builtin.«object.__getattribute__» ⟨[.ref x,.str "__class__" tk],[]⟩) Q E s:=by
  obtain ⟨h, g, d, t, os⟩ := s
  have l1 := exc_ty (M := model prog w) p
  have l2 := PySem.W.looks_findIn (M := model prog w) X c.cl
  have f5 := F.typeOf_object_class
  have f6 := F.slot_gs_get.lookup
  have f7 := F.slot_gs_set.lookup
  unfold Builtin.«object.__getattribute__»
  repeat (first | with_reducible refine l1.at ?_ | with_reducible refine l2.at ?_ | wp_step)
  refine exc_gcls X p c ?_
  repeat (first | assumption | wp_step)
theorem exc_class {s:Shared} {Q:Option Value→Shared→Prop} (X:K.In s.heap) (p:ExcAt x C d0 b0 s.heap) (c:ExcC K C) (hq:Q (some (.ref C)) { s with toks:=s.toks + 1 }) :
    wpAny (model prog w) A (getAttr? (.ref x) "__class__") Q E s:=by
  obtain ⟨h, g, d, t, os⟩ := s
  have l1 := exc_ty (M := model prog w) p
  have l2 := PySem.W.looks_findIn (M := model prog w) X c.ga
  have l3 := PySem.W.looks_findIn (M := model prog w) X c.gn
  have b1 := PySem.F.attr_ValueError.ga.bind (.ref x)
  unfold getAttr? getAttrBy?
  unfold getAttrBy
  refine wpAny_bind (wpAny_mkText (wpAny_bind (wpAny_attempt (wpAny_holding (wpAny_bind (l1.at (wpAny_bind (l2.at ?_))))))))
  show wpAny _ _ (getAttrByItsOwn _ _ _ _ _ _) _ _ _
  unfold getAttrByItsOwn
  refine wpAny_bind (l3.at ?_)
  refine wpAny_bind (wpAny_attempt (wpAny_holding ?_))
  show wpAny _ _ (boundAndCalled _ _ _) _ _ _
  unfold boundAndCalled
  rw [b1]
  refine wpAny_bind (wpAny_pure ?_)
  refine wpAny_call (codeAny_call_builtin PySem.F.attr_ValueError.ga.plain F.entry_bexc_ga ?_)
  refine exc_chk X p c ?_
  refine exc_get (s := ⟨h, g, d, t + 1, os⟩) X p c ?_
  exact wpAny_pure (wpAny_pure hq)
theorem exc_kit (c:ExcC K C):PySem.W.KitX K (.ref x) (.ref C) (ExcAt x C d0 b0) where
  ty := fun M h _ p => exc_ty p
  it := fun M h X p => by
    obtain ⟨dd, cd, sl, lk⟩ := exc_lk c.nw
    intro A' Q' E' s' k q
    unfold isType loadHead
    exact wpAny_bind (wpAny_loadPart (k _ _ (X _ _ lk)) (wpAny_pure q))
  ne := fun h tp d' its n sl X e => by
    obtain ⟨dd, cd, sl', lk⟩ := exc_lk c.nw
    refine Bool.eq_false_iff.mpr fun q => ?_
    have e2 : C = tp := Value.ref.inj (beq_iff_eq.mp q)
    subst e2
    have z:=congrArg Obj.cls (Option.some.inj ((X _ _ lk).symm.trans e))
    exact absurd (Value.type.inj z) (by decide)
  ca := fun X p q => exc_class X p c q
end
section
variable {X : Cx}
end
section
variable {X:Cx} {pins:List (Addr × Obj)} {σ:L2.St} {H:Hp} {s:Shared}
theorem name_goes {M:Model} {A:Around} {E:Value→Shared→Prop} {Q:Unit→Shared→Prop} {n:Nat} {x:Str} {pos:Pos} (I:Inv X pins σ H s) (nd:X.N.Nodup) (hn:X.N[n]? = some x) (hl:X.env.scope.names.lookup x = some .local)
    (k:∀ s',Inv X pins (σ.set n none) H s'→Q () s'):wpAny M A (do bindName X.env x .none; unbindBehindTheSuite X.env x pos) Q E s:=by
  refine wpAny_bind (wpAny_bindName (store_ok I nd hn (.inl hl) (v:=.non) (u:=.none) rfl (fun s1 I1=>?_) (.inr hl)))
  obtain ⟨m, hns, hloc⟩ := id I1.loc
  have hlen:n < σ.length:=by rw [I.len]; exact (List.getElem?_eq_some_iff.mp hn).1
  have hm : m x = some .none := by
    obtain ⟨u,ru,lk⟩:=hloc n x .non hn (by rw [List.getElem?_set_self hlen]) (.inl hl)
    cases (show u = Value.none from ru)
    rcases lk with ⟨_, e⟩ | ⟨z, _⟩
    · exact e
    · have z':X.env.scope.names.lookup x = some .cell ∨ X.env.scope.names.lookup x = some .free:=z
      rw [hl] at z'
      rcases z' with z' | z' <;> cases z'
  have hp:(X.env.scope.kind == .class || (X.env.scope.kind == .module && X.env.locals != X.env.globals)) = false:=by rw [I.ok.kind]; rfl
  have hl' : X.env.kindOf x = some .local := hl
  unfold unbindBehindTheSuite
  refine wpAny_onRaise ?_
  unfold unbindName
  refine wpAny_bind (wpAny_point (wpAny_bind ?_))
  unfold deleteName
  simp only [hl', hp]
  rw [if_neg (by decide)]
  refine wpAny_bind (wpAny_nsDel_keeps hns fun h2 v hn2 sb=>?_)
  rw [hm]
  simp only [if_true,Option.isSome_some,Bool.not_true,Bool.false_eq_true,if_false]
  refine wpAny_pure (wpAny_point (k _ ?_))
  have ne:∀ b o,X.s₀.heap.get? b = some o→b ≠ X.env.locals:=fun b o e=>Nat.ne_of_lt (Nat.lt_of_lt_of_le (Heap.lt_size e) I.ok.above)
  refine ⟨I1.ok,I1.os,I1.bare,⟨fun b o e n' hb hx=>?_,fun b o e n' hb hx=>?_,I1.base.free,fun b o e hx=>?_,I1.base.tups,I1.base.frzs,I1.base.tbls⟩,⟨_,hn2,fun j y v' e1 e2 e3=>?_⟩,fun y c e=>?_,I1.free,I1.freeC,fun p hp=>?_,fun b u e=>?_,?_⟩
  · exact (sb.2 b (ne b o e)).trans (I1.base.keep b o e n' hb hx)
  · obtain ⟨sl, q⟩ := I1.base.slot b o e n' hb hx
    exact ⟨sl, (sb.2 b (ne b o e)).trans q⟩
  · obtain ⟨o', q⟩ := I1.base.there b o e hx
    exact ⟨o', (sb.2 b (ne b o e)).trans q⟩
  · have hj : j ≠ n := by
      rintro rfl
      rw [List.getElem?_set_self hlen] at e2
      cases e2
    rw [List.getElem?_set_ne (Ne.symm hj)] at e2
    obtain ⟨u',r',q⟩:=hloc j y v' e1 (by rw [List.getElem?_set_ne (Ne.symm hj)]; exact e2) e3
    refine ⟨u', r', ?_⟩
    rcases q with ⟨kk, e⟩ | ⟨kk, c, e, z⟩
    · refine .inl ⟨kk, ?_⟩
      have hy:y ≠ x:=fun z=>hj (nodup_ix nd e1 (z ▸ hn))
      show (if y = x then v else m y) = some u'
      rw [if_neg hy]
      exact e
    · exact .inr ⟨kk, c, e, z.sameBut sb (I1.cne y c e)⟩
  · obtain ⟨w', z⟩ := I1.cell y c e
    exact ⟨w', z.sameBut sb (I1.cne y c e)⟩
  · obtain ⟨q, q2, q3, q4⟩ := I1.pin p hp
    exact ⟨(sb.2 p.1 q3).trans q, q2, q3, q4⟩
  · refine (I1.hok b u e).stay (fun c v' hc q=>(sb.2 c ?_).trans q) (fun _ q=>q) fun _ _ q=>q
    rintro rfl
    rcases hc with z | z
    · subst z
      rw [I1.free] at e
      cases e
    · rw [I1.free] at z
      cases z
  · have z := I1.len
    simp only [List.length_set] at z ⊢
    exact z
end
abbrev cxM (X:Cx) (v:Value):Cx:={ X with A:=X.A.mark (some v),calm:=false,xe:=fun _ _=>False }
section
variable {X:Cx} {pins:List (Addr × Obj)} {σ:L2.St} {H:Hp} {s:Shared}
theorem inv_mark (I:Inv X pins σ H s) (v:Value):Inv (cxM X v) pins σ H s :=
  ⟨⟨I.ok.mod,I.ok.kind,I.ok.glob,I.ok.blt,I.ok.above,I.ok.inj,I.ok.has,I.ok.cab,fun z=>(nomatch z),I.ok.frames,I.ok.stk,I.ok.exf,I.ok.bs,I.ok.bsz,I.ok.noex,I.ok.exfs,I.ok.funs,I.ok.frf⟩,I.os,I.bare,I.base,I.loc,I.cell,I.free,I.freeC,I.pin,I.hok,I.len⟩
theorem inv_unmark {v:Value} (ok:X.Ok) (I:Inv (cxM X v) pins σ H s):Inv X pins σ H s:=⟨ok,I.os,I.bare,I.base,I.loc,I.cell,I.free,I.freeC,I.pin,I.hok,I.len⟩
end
structure Cat (K : PySem.W.Frag) (D : Addr) : Prop where
  lk:∃ dd cd sl,K.lookup D = some ⟨.type "type",dd,.cls cd,sl⟩
  mb : PySem.W.mroIn K D (.type "BaseException") = some true
theorem ExcC.cat {K:PySem.W.Frag} {C:Addr} (c:ExcC K C):Cat K C:=⟨exc_lk c.nw,c.mb⟩
theorem exc_match {M:Model} {A:Around} {E:Value→Shared→Prop} {K:PySem.W.Frag} {a C D:Addr} {s:Shared} {Q:Bool→Shared→Prop} (X:K.In s.heap) (p:∃ o,s.heap.get? a = some o∧o.cls = .ref C) (c:Cat K D)
    (hm:PySem.W.mroIn K C (.ref D) = some true) (hq:Q true s):wpAny M A (excMatches (.ref a) (.ref D)) Q E s:=by
  obtain ⟨h, g, d, t, os⟩ := s
  obtain ⟨o, e, ec⟩ := p
  obtain ⟨dd, cd, sl, lk⟩ := c.lk
  have eD := X _ _ lk
  have f := tc_notTuple
  have l1 := PySem.W.looks_mroIn (M := M) X c.mb
  have l2 := PySem.W.looks_mroIn (M := M) X hm
  unfold excMatches
  repeat (first | with_reducible refine l1.at ?_ | with_reducible refine l2.at ?_ | (with_reducible refine wpAny_loadPart_at e ?_; rw [ec]) | with_reducible refine wpAny_loadPart_at eD ?_ | wp_step)
  exact hq
section
variable {X:Cx} {pins:List (Addr × Obj)} {σ:L2.St} {H H':Hp} {s s':Shared}
theorem handle_ok {E:Value→Shared→Prop} {a C D':Addr} {d:Option Addr} {B:Heap} {a0:Value} {y nm:Str} {yp hpos:Pos} {b₀:Stmt} {suite:List Stmt} {n:Nat} {tu:TS} {D:Ends} (dx:DefCx X) (I:Inv X pins σ H s) (F:Fly X.prog X.w X.stack H s H' a (.ref C) d B a0 s')
    (hy:Gl X y) (hD:X.mg y = some (.ref D')) (cD:Cat X.K D') (hm:PySem.W.mroIn X.K C (.ref D') = some true) (nd:X.N.Nodup) (hn:X.N[n]? = some nm) (hl:X.env.scope.names.lookup nm = some .local) (hu:∀ v,PSs (cxM X v) (b₀ :: suite) tu)
    (hdb : (y == ("__debug__" : Str)) = false)
    (q:∀ H3,Same H' H3→H3 a = some (.ext (ExcAt a C d))→tu { nx:=fun σ' H'=>D.nx (σ'.set n none) H',rt:=D.rt,bk:=fun σ' H'=>D.bk (σ'.set n none) H',ct:=fun σ' H'=>D.ct (σ'.set n none) H' } (σ.set n (some (.ref a))) H3) :
    wpAny (model X.prog X.w) X.A (noteFrame (.ref a) X.env) (fun _ s2=>wpAny (model X.prog X.w) X.A (setFlight (.ref a) none) (fun _ s3 =>
      wpAny (model X.prog X.w) X.A (handleBy (.ref a) X.env [.ExceptHandler (some (.Name y yp)) (some nm) (b₀ :: suite) hpos]) (SP X pins D) E s3) E s2) E s':=by
  have hfr:X.A.frames = some (X.env :: X.outer):=by rw [I.ok.frames,dx.stk]
  have hfl := F.fly
  rw [dx.stk] at hfl
  refine wpAny_mono (mild_any mild_note F.dct (wpAny_looks_onW (Q:=fun _ s4=>∃ h4,s4 = { s' with heap:=h4 }∧Heap.HeldW B (X.env :: X.outer) a (.ref C) a0 X.env.locals h4∧s'.heap.UpToSlots h4) hfr dx.fr hfl fun h4 held u4=>⟨h4,rfl,held,u4⟩)) (fun _ s4 ⟨⟨h4,e4,held,u4⟩,d4⟩=>?_) fun _ _ z=>z
  subst e4
  refine wpAny_mono (mild_any mild_setFlight d4 (wpAny_landsW (Q:=fun _ s5=>∃ h5,s5 = { s' with heap:=h5 }∧Heap.FlyingW B (X.env :: X.outer) a (.ref C) a0 h5∧h4.UpToSlots h5) held fun h5 f5 u5=>⟨h5,rfl,f5,u5⟩)) (fun _ s5 ⟨⟨h5,e5,f5,u5⟩,d5⟩=>?_) fun _ _ z=>z
  subst e5
  have I5:Inv X pins σ H' { s' with heap:=h5 }:=I.call' (s':={ s' with heap:=h5 }) (ch:=[]) F.os (F.un5 f5.1 (u4.trans u5)) (F.hok5 f5.1) F.bare fun b hb=>absurd hb (by simp)
  refine wpAny_handleBy_cons (codeAny_handlers_test (ld_glob (inv_mark I5 (.ref a)) hy hD ?_ hdb)) (by intro z; cases z)
  refine exc_match I5.kIn f5.there cD hm ?_
  refine codeAny_handlers_suite_as ?_
  refine wpAny_mono (mild_any mild_setFlight d5 (lands_againW (Q:=fun _ s6=>∃ h6,s6 = { s' with heap:=h6 }∧Heap.FlyingW B (X.env :: X.outer) a (.ref C) a0 h6∧h5.UpToSlots h6) f5 fun h6 f6 u6=>⟨h6,rfl,f6,u6⟩)) (fun _ s6 ⟨⟨h6,e6,f6,u6⟩,d6⟩=>?_) fun _ _ z=>z
  subst e6
  obtain ⟨oe, ws, oe1, oe2, oe3, oe5⟩ := f6.first
  have oe4 : oe.dict = d := by
    obtain ⟨o6, z1, z2⟩ := d6
    have z3 : some o6 = some oe := z1.symm.trans oe1
    cases z3
    exact z2
  have up:∀ b,b ≠ a→upd H' a (.ext (ExcAt a C d)) b = H' b:=fun b hb=>upd_ne hb
  have sm:Same H' (upd H' a (.ext (ExcAt a C d))):=fun b o e=>by
    rw [up b (ne_of_none e F.free)]
    exact e
  have un0 := F.un5 f6.1 ((u4.trans u5).trans u6)
  have un6:Un (frs X.stack) [] H (upd H' a (.ext (ExcAt a C d))) s.heap h6 :=
    ⟨un0.keep, un0.slot, fun b o e n' hx => by
      have hb : b ≠ a := by
        rintro rfl
        rw [F.fresh] at e
        cases e
      rw [up b hb]
      exact un0.free b o e n' hx,un0.there,fun b xs e=>sm b _ (un0.tups b xs e),fun b o u e=>sm b _ (un0.frzs b o u e),fun b ps e=>by
      obtain ⟨more, e1⟩ := un0.tbls b ps e
      exact ⟨more, sm b _ e1⟩⟩
  have ok0 := F.hok5 f6.1
  have ok6:HOk X.prog X.w (upd H' a (.ext (ExcAt a C d))) h6:=fun b u e=>by
    by_cases hb : b = a
    · subst hb
      rw [upd_same] at e
      cases e
      refine ⟨⟨oe,ws,oe1,oe2,oe3,oe4,⟨_,oe5⟩,fun z=>nomatch z⟩,⟨oe,oe1⟩,fun h1 h2 ⟨o,vs,z1,z2,z3,z4⟩ k=>⟨o,vs,k o z1,z2,z3,z4⟩⟩
    · rw [up b hb] at e
      exact (ok0 b u e).stay (fun _ _ _ q=>q) (fun c z=>sm c _ z) fun c xs z=>sm c _ z
  have I6:Inv X pins σ (upd H' a (.ext (ExcAt a C d))) { s' with heap:=h6 }:=I.call' (s':={ s' with heap:=h6 }) (ch:=[]) F.os un6 ok6 F.bare fun b hb=>absurd hb (by simp)
  refine store_ok (X:=cxM X (.ref a)) (inv_mark I6 (.ref a)) nd hn (.inl hl) (v:=.ref a) rfl (fun s7 I7=>?_) (.inr hl)
  refine wpAny_mono (hu (.ref a) pins s7 _ _ _ I7 (q _ sm upd_same)) (fun fl s8 q8=>?_) fun _ _ z=>z.elim
  cases fl with
  | next =>
    obtain ⟨σ8, H8, I8, q8⟩ := q8
    exact name_goes (inv_unmark I.ok I8) nd hn hl fun s9 I9=>⟨_,H8,I9,q8⟩
  | brk =>
    obtain ⟨σ8, H8, I8, q8⟩ := q8
    exact name_goes (inv_unmark I.ok I8) nd hn hl fun s9 I9=>⟨_,H8,I9,q8⟩
  | cont =>
    obtain ⟨σ8, H8, I8, q8⟩ := q8
    exact name_goes (inv_unmark I.ok I8) nd hn hl fun s9 I9=>⟨_,H8,I9,q8⟩
  | ret u =>
    obtain ⟨v, σ8, H8, I8, r8, q8⟩ := q8
    exact name_goes (inv_unmark I.ok I8) nd hn hl fun s9 I9=>⟨v,_,H8,I9,r8,q8⟩
end
end Lw
end
section
set_option Elab.async false
set_option linter.all false
set_option maxRecDepth 100000
set_option maxHeartbeats 4000000
namespace Lw
open PySem PySem.Spec PyProof.Rows L2
section
variable {X:Cx} {a b c:Expr} {ta tb tc:TE} {pos:Pos} {tg:Expr}
def Cst (mg:Str→Option Value) (x:Str) (v:V):Prop:=∃ u,mg x = some u∧RelV v u
theorem g_cst {x:Str} {v:V} (k:Cst X.mg x v) (hg:Gl X x) (hd:(x == ("__debug__":Str)) = false:=by decide):PE X (.Name x pos) (tC v):=by
  obtain ⟨u, h1, h2⟩ := k
  exact pe_glob hg h1 h2 hd
def dAll (K:PySem.W.Frag):List V→Hp→VK→Prop:=fun xs H Q=>match xs with
  | [.ref p]=>∃ bs:List Bool,SqL K H p (bs.map V.bl)∧Q (.bl (bs.all id)) H
  | _ => False
theorem vals_bls:∀ {bs:List Bool} {us:List Value},Vals (bs.map V.bl) us→us = bs.map Value.bool
  | [], _, r => by cases r; rfl
  | d :: ds, _, r => by
    cases r with
    | cons r1 r2=>rw [show _ = Value.bool d from r1,vals_bls r2]; rfl
theorem range_all:∀ bs:List Bool,((List.range bs.length).all fun i=>bs.getD i true) = bs.all id:=by
  intro bs
  rw [Bool.eq_iff_iff, List.all_eq_true, List.all_eq_true]
  constructor
  · intro h b hb
    obtain ⟨i, hi, rfl⟩ := List.getElem_of_mem hb
    have := h i (List.mem_range.mpr hi)
    rw [List.getD_eq_getElem?_getD,List.getElem?_eq_getElem hi] at this
    exact this
  · intro h i hi
    have hi := List.mem_range.mp hi
    rw [List.getD_eq_getElem?_getD,List.getElem?_eq_getElem hi]
    exact h _ (List.getElem_mem hi)
theorem c_all (hc:X.calm = true):CallR X (.builtin "all") (dAll X.K):=by
  intro pins s σ H xs us Q I r h
  match xs, h with
  | [.ref p], ⟨bs, h1, q⟩ =>
    obtain ⟨u, rfl, r1⟩ := vals1 r
    cases (show u = Value.ref p from r1)
    obtain ⟨its, rv, pl, _⟩ := I.list h1
    have e := vals_bls rv
    subst e
    have hh := I.ok.hd hc
    have il := pl.isList
    obtain ⟨ob, eb, rb⟩ := id il
    have ne:p ≠ s.heap.objs.size:=Nat.ne_of_lt (Heap.lt_size eb)
    refine call_all_walk (wpAny_pyIter_list il ?_)
    refine ⟨s.heap.objs.size,_,_,_,_,_,fun i=>bs.getD i true,rfl,Walks.list (A:=X.A.in1) hh s.heap.objs.size p ne (bs.map Value.bool).toArray,⟨⟨_,Heap.get?_push_size _ rfl,rfl,rfl⟩,⟨ob,Heap.get?_push_of_some _ eb,rb⟩⟩,fun i v s2 Q2 E2 hP hQ=>?_,fun h' tk k=>?_⟩
    · have hP:(bs.map Value.bool).toArray[i]? = some v:=hP
      rw [List.getElem?_toArray, List.getElem?_map] at hP
      cases e2 : bs[i]? with
      | none =>
        rw [e2] at hP
        cases hP
      | some d =>
        rw [e2] at hP
        cases hP
        refine wpAny_truthy_bool ?_
        have:bs.getD i true = d:=by rw [List.getD_eq_getElem?_getD,e2]; rfl
        rw [← this]
        exact hQ
    · refine ⟨.bl (bs.all id),H,I.kept (t':=tk) fun b o e=>k b o ?_ (Heap.get?_push_of_some _ e),?_,q⟩
      · intro z
        have z : b = s.heap.objs.size := by simpa using z
        exact Nat.lt_irrefl _ (z ▸ Heap.lt_size e)
      · show Value.bool _ = Value.bool _
        rw [List.size_toArray, List.length_map, range_all]
end
end Lw
end
section
set_option Elab.async false
set_option linter.all false
set_option maxRecDepth 100000
set_option maxHeartbeats 4000000
namespace Lw
open PySem PySem.Spec PyProof.Rows L2
section
variable {X : Cx}
def tCutE (t u:TS):TS:=fun D σ H=>∃ R:L2.St→Hp→Prop,t { D with nx:=R } σ H∧∀ σ' H',R σ' H'→u D σ' H'
theorem ss_cutE {st:Stmt} {r:List Stmt} {t u:TS} (h1:PS X st t) (h2:PSs X r u):PSs X (st :: r) (tCutE t u):=by
  intro pins s σ H D I h
  obtain ⟨R, h⟩ := h
  exact ss_cut R h1 h2 pins s σ H D I h
end
end Lw
end
section
set_option Elab.async false
set_option linter.all false
set_option maxRecDepth 100000
set_option maxHeartbeats 4000000
namespace Lw
open PySem PySem.Spec PyProof.Rows L2
def dd (l:List Str) (x:Str):List Str:=if x ∈ l then l else l ++ [x]
def lS (a b : Str) : Prop := a.cps.toList < b.cps.toList
instance:DecidableRel lS:=fun a b=>inferInstanceAs (Decidable (a.cps.toList < b.cps.toList))
theorem lS_irr (a : Str) : ¬ lS a a := List.lt_irrefl _
theorem lS_tr {a b c:Str} (h:lS a b) (h':lS b c):lS a c:=List.lt_trans h h'
theorem lS_tri {a b:Str} (h:¬ lS a b) (h':¬ lS b a):a = b:=by
  have e:=List.le_antisymm (List.not_lt.mp h') (List.not_lt.mp h)
  cases a; cases b
  simpa using Array.toList_inj.mp e
theorem lS_as {a b:Str} (h:lS a b):¬ lS b a:=List.lt_asymm h
abbrev Inc (l : List Str) : Prop := l.Pairwise lS
theorem inc_ext:∀ {l m:List Str},Inc l→Inc m→(∀ x,x ∈ l ↔ x ∈ m)→l = m
  | [], [], _, _, _ => rfl
  | [],b :: m,_,_,h=>absurd ((h b).mpr (List.mem_cons_self ..)) (by simp)
  | a :: l,[],_,_,h=>absurd ((h a).mp (List.mem_cons_self ..)) (by simp)
  | a :: l, b :: m, h1, h2, h => by
    have ⟨a1, a2⟩ := List.pairwise_cons.mp h1
    have ⟨b1, b2⟩ := List.pairwise_cons.mp h2
    have e : a = b := by
      rcases List.mem_cons.mp ((h a).mp (List.mem_cons_self ..)) with e | e
      · exact e
      · rcases List.mem_cons.mp ((h b).mpr (List.mem_cons_self ..)) with f | f
        · exact f.symm
        · exact absurd (b1 a e) (lS_as (a1 b f))
    subst e
    rw [inc_ext a2 b2 fun x => ⟨fun hx => ?_, fun hx => ?_⟩]
    · rcases List.mem_cons.mp ((h x).mp (List.mem_cons_of_mem _ hx)) with e | e
      · subst e
        exact absurd (a1 x hx) (lS_irr x)
      · exact e
    · rcases List.mem_cons.mp ((h x).mpr (List.mem_cons_of_mem _ hx)) with e | e
      · subst e
        exact absurd (b1 x hx) (lS_irr x)
      · exact e
def insS (x : Str) : List Str → List Str
  | [] => [x]
  | y :: l=>if lS x y then x :: y :: l else if lS y x then y :: insS x l else y :: l
theorem mem_insS {x z:Str}:∀ {l:List Str},z ∈ insS x l ↔ z = x ∨ z ∈ l
  | [] => by simp [insS]
  | y :: l => by
    unfold insS
    split
    · simp
    · split
      · simp only [List.mem_cons, mem_insS (l := l)]
        constructor
        · rintro (h | h | h)
          · exact .inr (.inl h)
          · exact .inl h
          · exact .inr (.inr h)
        · rintro (h | h | h)
          · exact .inr (.inl h)
          · exact .inl h
          · exact .inr (.inr h)
      · rename_i h1 h2
        have e := lS_tri h1 h2
        subst e
        simp
theorem inc_insS {x:Str}:∀ {l:List Str},Inc l→Inc (insS x l)
  | [], _ => List.pairwise_singleton ..
  | y :: l, h => by
    have ⟨h1, h2⟩ := List.pairwise_cons.mp h
    unfold insS
    split
    · rename_i c
      exact List.pairwise_cons.mpr ⟨fun z hz=>(List.mem_cons.mp hz).elim (fun e=>e ▸ c) (fun e=>lS_tr c (h1 z e)),h⟩
    · split
      · rename_i c
        exact List.pairwise_cons.mpr ⟨fun z hz=>(mem_insS.mp hz).elim (fun e=>e ▸ c) (h1 z),inc_insS h2⟩
      · exact h
def srt (l : List Str) : List Str := l.foldr insS []
theorem inc_srt : ∀ (l : List Str), Inc (srt l)
  | [] => List.Pairwise.nil
  | x :: l => inc_insS (inc_srt l)
theorem mem_srt {x:Str}:∀ {l:List Str},x ∈ srt l ↔ x ∈ l
  | [] => Iff.rfl
  | y :: l => by
    show x ∈ insS y (srt l) ↔ _
    rw [mem_insS, mem_srt (l := l), List.mem_cons]
theorem mem_dd {l:List Str} {x z:Str}:z ∈ dd l x ↔ z ∈ l ∨ z = x:=by
  unfold dd
  split
  · rename_i h
    constructor
    · exact .inl
    · rintro (h' | rfl)
      · exact h'
      · exact h
  · simp
theorem nodup_dd {l:List Str} {x:Str} (h:l.Nodup):(dd l x).Nodup:=by
  unfold dd
  split
  · exact h
  · rename_i c
    rw [List.nodup_append]
    exact ⟨h,List.nodup_cons.mpr ⟨by simp,List.nodup_nil⟩,fun a ha b hb e=>by
      rw [List.mem_singleton] at hb
      subst hb e
      exact c ha⟩
def ddn (val:Nat→Str) (i:Nat):List Str:=((List.range i).map val).foldl dd []
theorem ddn_succ (val:Nat→Str) (i:Nat):ddn val (i + 1) = dd (ddn val i) (val i):=by
  unfold ddn
  rw [List.range_succ, List.map_append, List.foldl_append]
  rfl
theorem ddn_nodup (val : Nat → Str) : ∀ i, (ddn val i).Nodup
  | 0 => List.nodup_nil
  | i + 1 => by
    rw [ddn_succ]
    exact nodup_dd (ddn_nodup val i)
theorem mem_ddn {val:Nat→Str} {x:Str}:∀ {i:Nat},x ∈ ddn val i ↔ ∃ j,j < i∧val j = x
  | 0=>⟨fun h=>(by cases h),fun ⟨j,h,_⟩=>absurd h (Nat.not_lt_zero _)⟩
  | i + 1 => by
    rw [ddn_succ, mem_dd, mem_ddn (i := i)]
    constructor
    · rintro (⟨j, h, e⟩ | e)
      · exact ⟨j, Nat.lt_succ_of_lt h, e⟩
      · exact ⟨i, Nat.lt_succ_self _, e.symm⟩
    · rintro ⟨j, h, e⟩
      rcases Nat.lt_succ_iff_lt_or_eq.mp h with h | rfl
      · exact .inl ⟨j, h, e⟩
      · exact .inr e.symm
theorem pairwise_inc {l:List Str} (h:l.Pairwise fun a b=>¬ lS b a) (n:l.Nodup):Inc l:=by
  induction l with
  | nil => exact List.Pairwise.nil
  | cons a l ih =>
    have ⟨h1, h2⟩ := List.pairwise_cons.mp h
    have ⟨n1, n2⟩ := List.nodup_cons.mp n
    refine List.pairwise_cons.mpr ⟨fun b hb => ?_, ih h2 n2⟩
    refine Decidable.byContradiction fun c => n1 ?_
    have e := lS_tri c (h1 b hb)
    exact e ▸ hb
theorem erase_perm {α:Type}:∀ (l:List α) (i:Nat) (x:α),l[i]? = some x→(x :: l.eraseIdx i).Perm l
  | [], i, x, h => by simp at h
  | a :: l, 0, x, h => by
    simp at h
    subst h
    exact List.Perm.refl _
  | a :: l, i + 1, x, h => by
    simp only [List.getElem?_cons_succ] at h
    show (x :: a :: l.eraseIdx i).Perm (a :: l)
    exact (List.Perm.swap ..).trans ((erase_perm l i x h).cons a)
theorem nd_len {α:Type} [DecidableEq α]:∀ {l m:List α},l.Nodup→(∀ x ∈ l,x ∈ m)→l.length ≤ m.length
  | [], m, _, _ => Nat.zero_le _
  | a :: l, m, n, h => by
    have ⟨n1, n2⟩ := List.nodup_cons.mp n
    have ha : a ∈ m := h a (List.mem_cons_self ..)
    have:=nd_len (l:=l) (m:=m.erase a) n2 fun x hx=>(List.mem_erase_of_ne (fun e:x = a=>n1 (e ▸ hx))).mpr (h x (List.mem_cons_of_mem _ hx))
    rw [List.length_erase_of_mem ha] at this
    have : 0 < m.length := List.length_pos_of_mem ha
    rw [List.length_cons]
    omega
theorem inc_nodup {l:List Str} (h:Inc l):l.Nodup:=List.Pairwise.imp (S:=fun a b=>a ≠ b) (fun {a b} (h:lS a b) (e:a = b)=>lS_irr a (e ▸ h)) h
theorem ddn_mem {names:List Str} {x:Str}:x ∈ ddn (fun i=>names.getD i ⟨#[]⟩) names.length ↔ x ∈ names:=by
  rw [mem_ddn]
  constructor
  · rintro ⟨j, h, rfl⟩
    rw [List.getD_eq_getElem?_getD,List.getElem?_eq_getElem h]
    exact List.getElem_mem h
  · intro h
    obtain ⟨j, hj, e⟩ := List.mem_iff_getElem.mp h
    exact ⟨j,hj,by rw [List.getD_eq_getElem?_getD,List.getElem?_eq_getElem hj]; exact e⟩
theorem ddn_srt (names:List Str):(ddn (fun i=>names.getD i ⟨#[]⟩) names.length).length ≤ (srt names).length :=
  nd_len (ddn_nodup _ _) fun x hx=>mem_srt.mpr (ddn_mem.mp hx)
end Lw
end
section
set_option Elab.async false
set_option linter.all false
set_option maxRecDepth 100000
set_option maxHeartbeats 4000000
namespace Lw
open PySem PySem.Spec PyProof.Rows L2
def byTx (w:World):Bool:=w.params.followText "set-order"
def tx (e : Int × Value) : Str := strOf e.2
structure SetO (prog:Program) (w:World) (o:Obj) (ss:List Str) (es:Array (Int × Value)) (ep:Nat) (t:SetTable):Prop where
  ex : o.ExactSet
  dat : o.data = .set es ep t
  el : ElemsOf (PySem.strKind prog w) es.toList
  pm : (es.toList.map tx).Perm ss
  fit : t.fits es.size = true
  bd : es.size < scanBound
  led : t.led = !byTx w
  pl : 0 < es.size → t.plain = false
def SetS (prog:Program) (w:World) (h:Heap) (a:Addr) (ss:List Str):Prop:=∃ o es ep t,h.get? a = some o∧SetO prog w o ss es ep t
theorem SetO.size {prog:Program} {w:World} {o:Obj} {ss:List Str} {es:Array (Int × Value)} {ep:Nat} {t:SetTable} (S:SetO prog w o ss es ep t):es.size = ss.length:=by
  rw [← S.pm.length_eq,List.length_map,Array.length_toList]
theorem relaid_keeps {t t':SetTable} {hs:Array Int} {n:Nat} {o:Array Nat} (h:t.relaid hs n = some (t',o)):t'.led = t.led∧t'.plain = t.plain:=by
  unfold SetTable.relaid SetTable.laid at h
  cases hl:SetTable.layClean (SetTable.sizeAbove n - 1) hs with
  | none =>
    rw [hl] at h
    cases h
  | some ow =>
    rw [hl] at h
    cases h
    exact ⟨rfl, rfl⟩
theorem relayAll_keeps (t:SetTable) (es:Array (Int × Value)) (n:Nat):(relayAll t es n).2.1.led = t.led∧(t.plain = false→(relayAll t es n).2.1.plain = false):=by
  unfold relayAll
  split
  · rename_i t' o e
    obtain ⟨h1, h2⟩ := relaid_keeps e
    dsimp only
    split
    · exact ⟨h1, fun h => h2.trans h⟩
    · exact ⟨rfl, fun _ => rfl⟩
  · exact ⟨rfl, fun _ => rfl⟩
theorem orStandIn_led (t:SetTable) (n:Nat):(t.orStandIn n).led = t.led:=by
  unfold SetTable.orStandIn
  split <;> rfl
theorem layNew_led (t:SetTable) (es:Array (Int × Value)) (h:Int) (x:Value):(layNew t es h x).2.1.led = t.led:=by
  unfold layNew
  split
  · exact orStandIn_led _ _
  · rfl
theorem tx_of {prog:Program} {w:World} {k:Str} {e:Int × Value} (h:(PySem.strKind prog w).is k e.2 = true):tx e = k:=by
  obtain ⟨t, z⟩ := Value.isStrOf_shape h
  unfold tx
  rw [z]
  rfl
theorem storeS {prog:Program} {w:World} {h:Heap} {a:Addr} {o:Obj} {ss ss':List Str} {es es':Array (Int × Value)} {ep:Nat} {t t':SetTable} (ho:h.get? a = some o) (S:SetO prog w o ss es ep t)
    (e1:ElemsOf (PySem.strKind prog w) es'.toList) (e2:(es'.toList.map tx).Perm ss') (e3:t'.fits es'.size = true) (e4:es'.size < scanBound) (e5:t'.led = !byTx w) (e6:t'.plain = false) :
    ∃ o',(h.update a (Obj.putSet es' t')).get? a = some o'∧SetO prog w o' ss' es' (ep + 1) t':=by
  have g:=Heap.get?_update_self (Obj.putSet es' t') ho (by rw [putSet_of es' t' S.dat]; rfl)
  rw [putSet_of es' t' S.dat] at g
  exact ⟨_, g, ⟨S.ex, rfl, e1, e2, e3, e4, e5, fun _ => e6⟩⟩
section
variable {prog:Program} {w:World} {A:Around} {E:Value→Shared→Prop} {s:Shared}
theorem tailS {f:Bool→Sem Unit} (hf:∀ (b:Bool) (s1:Shared) (Q':Unit→Shared→Prop),Q' () s1→wpAny (model prog w) A (f b) Q' E s1) {a:Addr} {o:Obj} {ss ss':List Str} {es es':Array (Int × Value)} {ep:Nat} {t t':SetTable}
    (ho:s.heap.get? a = some o) (S:SetO prog w o ss es ep t) (e1:ElemsOf (PySem.strKind prog w) es'.toList) (e2:(es'.toList.map tx).Perm ss') (e3:t'.fits es'.size = true) (e4:es'.size < scanBound) (e5:t'.led = !byTx w)
    (e6:t'.plain = false) {wd:Bool} {R:Option Bool→Shared→Prop} (q:∀ g,Heap.SameBut a s.heap g→SetS prog w g a ss'→R (some true) { s with heap:=g }) :
    wpAny (model prog w) A (do
      storeSet a es' t'
      if (!wd && t'.tooFull) = true then do { f (relayAll t' es' (SetTable.grown es'.size)).2.2; storeSet a (relayAll t' es' (SetTable.grown es'.size)).1 (relayAll t' es' (SetTable.grown es'.size)).2.1; pure (some true) } else pure (some true)) R E s:=by
  refine wpAny_bind (wpAny_storeSet_of ho S.dat ?_ (fits_of_scanBound e4))
  obtain ⟨o1, g1, S1⟩ := storeS ho S e1 e2 e3 e4 e5 e6
  have b1:=Heap.SameBut.update s.heap a (Obj.putSet es' t')
  split
  · have r1:=relayAll_perm t' es' (SetTable.grown es'.size)
    have r2:=relayAll_fits t' es' (SetTable.grown es'.size)
    have r3:=relayAll_keeps t' es' (SetTable.grown es'.size)
    generalize relayAll t' es' (SetTable.grown es'.size) = L at r1 r2 r3 ⊢
    obtain ⟨fs, u, gv⟩ := L
    dsimp only at r1 r2 r3 ⊢
    have hz:fs.size = es'.size:=by rw [← Array.length_toList,r1.length_eq,Array.length_toList]
    have hb : fs.size < scanBound := by rw [hz]; exact e4
    refine wpAny_bind (hf _ _ _ (wpAny_bind (wpAny_storeSet_of g1 S1.dat ?_ (fits_of_scanBound hb))))
    obtain ⟨o2,g2,S2⟩:=storeS g1 S1 (e1.perm r1) ((r1.map tx).trans e2) r2 hb (r3.1.trans e5) (r3.2 e6)
    exact wpAny_pure (q _ (b1.trans (Heap.SameBut.update _ a _)) ⟨o2,fs,_,u,g2,S2⟩)
  · exact wpAny_pure (q _ b1 ⟨o1, es', _, t', g1, S1⟩)
theorem addS {a:Addr} {ss:List Str} {x:Str} {tk:Tok} {Q:Bool→Shared→Prop} (hS:SetS prog w s.heap a ss) (room:ss.length + 1 < scanBound)
    (q:∀ b g,Heap.SameBut a s.heap g→SetS prog w g a (dd ss x)→Q b { s with heap:=g }):wpAny (model prog w) A (setAddHashed a (.str x tk) ((PySem.strKind prog w).hash x)) Q E s:=by
  obtain ⟨o, es, ep, t, ho, S⟩ := hS
  have key:(PySem.strKind prog w).is x (.str x tk) = true:=by
    show (x == x) = true
    simp
  have scn : (Value.str x tk).scannable = true := rfl
  have hz := S.size
  unfold setAddHashed setAddHashedIn
  refine wpAny_holding (wpAny_bind (wpAny_setState_of ho S.dat S.fit ?_))
  dsimp only
  rw [byScan_of scn S.bd S.el]
  simp only [↓reduceIte]
  unfold setAddByScan
  refine wpAny_bind (wpAny_bind (wpAny_rule (wpAny_bind (wpAny_setScan_of (knd:=PySem.strKind prog w) key ho S.dat S.fit S.el ?_))))
  cases hr:List.findIdx? (fun e=>(PySem.strKind prog w).is x e.2) es.toList with
  | some j =>
    dsimp only
    obtain ⟨hj,hp,_⟩:=List.findIdx?_eq_some_iff_getElem.mp hr
    have hx:x ∈ ss:=S.pm.mem_iff.mp (List.mem_map.mpr ⟨_,List.getElem_mem hj,tx_of hp⟩)
    refine wpAny_pure (wpAny_pure ?_)
    refine q false s.heap (Heap.SameBut.refl a s.heap) ⟨o,es,ep,t,ho,?_⟩
    rw [show dd ss x = ss from if_pos hx]
    exact S
  | none =>
    dsimp only
    have hx : x ∉ ss := fun h => by
      obtain ⟨e,he,z⟩:=List.mem_map.mp (S.pm.mem_iff.mpr h)
      obtain ⟨⟨k, hk, _⟩, _⟩ := S.el e he
      have z' := (tx_of hk).symm.trans z
      subst z'
      have := List.findIdx?_eq_none_iff.mp hr e he
      rw [hk] at this
      cases this
    have gw:∀ (b:Bool) (s1:Shared) (Q':Unit→Shared→Prop),Q' () s1→wpAny (model prog w) A (match b with | true=>rule "set.scan.the-table-gave-way" | false=>pure ()) Q' E s1:=fun b s1 Q' h=>by
      cases b with
      | true => exact wpAny_rule h
      | false => exact wpAny_pure h
    have r1:=layNew_perm t es ((PySem.strKind prog w).hash x) (.str x tk)
    have r2:=layNew_fits t es ((PySem.strKind prog w).hash x) (.str x tk)
    have r3:=layNew_led t es ((PySem.strKind prog w).hash x) (.str x tk)
    generalize layNew t es ((PySem.strKind prog w).hash x) (.str x tk) = L at r1 r2 r3 ⊢
    obtain ⟨fs, u, wd, gv⟩ := L
    dsimp only at r1 r2 r3 ⊢
    rw [Array.toList_push] at r1
    have f1:ElemsOf (PySem.strKind prog w) fs.toList:=(S.el.push key scn).perm r1
    have f2 : (fs.toList.map tx).Perm (dd ss x) := by
      rw [show dd ss x = ss ++ [x] from if_neg hx]
      refine (r1.map tx).trans ?_
      rw [List.map_append]
      exact S.pm.append_right _
    have fz:fs.size = es.size + 1:=by rw [← Array.length_toList,r1.length_eq,List.length_append,Array.length_toList]; rfl
    have fb:fs.size < scanBound:=by rw [fz,hz]; exact room
    have fin:∀ g,Heap.SameBut a s.heap g→SetS prog w g a (dd ss x)→wpAny (model prog w) A (pure true) Q E { s with heap:=g }:=fun g b h=>wpAny_pure (q true g b h)
    refine wpAny_bind (gw _ _ _ ?_)
    split
    · refine wpAny_bind ?_
      rw [hashByValue_scannable 8 scn]
      refine wpAny_pure ?_
      refine tailS gw ho S f1 f2 (SetTable.fits_plain_off r2) fb (r3.trans S.led) rfl ?_
      intro g b h
      dsimp only
      exact fin g b h
    · rename_i np
      refine wpAny_bind (wpAny_pure ?_)
      simp only [↓reduceIte]
      refine tailS gw ho S f1 f2 r2 fb (r3.trans S.led) (by simpa using np) ?_
      intro g b h
      dsimp only
      exact fin g b h
theorem ddn_len (val:Nat→Str):∀ i,(ddn val i).length ≤ i
  | 0 => Nat.le_refl _
  | i + 1 => by
    have h := ddn_len val i
    rw [ddn_succ]
    unfold dd
    split
    · omega
    · rw [List.length_append, List.length_singleton]
      omega
theorem loopS {R:Result→Shared→Prop} {I:Addr} {fp wr:List Addr} {G:Array GenState→Array GenState→Prop} {n:Nat} {P:Nat→Value→Prop} {St:Nat→Shared→Prop} (W:WalksS prog w A.in1 I fp wr G n P St) (S:Addr) (nS:S ∉ fp)
    (val:Nat→Str) (hv:∀ i v,P i v→∃ t,v = .str (val i) t) (hb:n + 1 < scanBound):∀ (k i:Nat) (s:Shared),n - i = k→i ≤ n→St i s→SetS prog w s.heap S (ddn val i) →
      (∀ s',Moved (S :: wr) G s s'→SetS prog w s'.heap S (ddn val n)→R (.ok (.ret .none)) s')→codeAny (model prog w) A (.builtin "set.update.loop" ⟨[.ref S,.ref I],[]⟩) R s:=by
  have nw : S ∉ wr := fun h => nS (W.sub _ h)
  have sub:∀ b ∈ wr,b ∈ S :: wr:=fun b hb=>List.mem_cons_of_mem _ hb
  have keepS:∀ {s s':Shared} {ss:List Str},Moved wr G s s'→SetS prog w s.heap S ss→SetS prog w s'.heap S ss:=fun m ⟨o,es,ep,t,h,z⟩=>⟨o,es,ep,t,m.heap S _ nw h,z⟩
  intro k
  induction k with
  | zero =>
    intro i s hk hi st hS hR
    have e : i = n := by omega
    subst e
    refine codeAny_builtin PyProof.Rows.F.entry_set_update_loop ?_
    rw [Around.under_plainId PyProof.Rows.F.plain_set_update_loop _]
    show wpAny _ A.in1 (pyNext (.ref I) >>= _) _ _ s
    refine wpAny_bind (W.done s _ _ st fun s' m=>wpAny_pure (hR s' (m.mono sub) (keepS m hS)))
  | succ k ih =>
    intro i s hk hi st hS hR
    have lt : i < n := by omega
    refine codeAny_builtin PyProof.Rows.F.entry_set_update_loop ?_
    rw [Around.under_plainId PyProof.Rows.F.plain_set_update_loop _]
    show wpAny _ A.in1 (pyNext (.ref I) >>= _) _ _ s
    refine wpAny_bind (W.item i s _ _ lt st fun v s' hP st' m=>?_)
    obtain ⟨t, rfl⟩ := hv i v hP
    have hS' := keepS m hS
    show wpAny _ A.in1 (holding [Value.str (val i) t] (setAdd S (.str (val i) t)) >>= _) _ _ s'
    refine wpAny_bind (wpAny_holding ?_)
    unfold setAdd
    refine wpAny_holding (wpAny_bind ((PySem.strKind prog w).pyHash (k:=val i) (by show (val i == val i) = true; simp) ?_))
    have room:(ddn val i).length + 1 < scanBound:=by have:=ddn_len val i; omega
    refine addS (s:={ s' with toks:=s'.toks + 1 }) hS' room fun b g sb hS2=>?_
    rw [← ddn_succ] at hS2
    refine wpAny_pure ⟨plainId_quiet PyProof.Rows.F.plain_set_update_loop _,ih (i + 1) _ (by omega) lt (W.frame _ s' _ _ st' (Nat.le_succ _) fun c hc o e=>?_) hS2 fun s2 m2 z2=>?_⟩
    · rw [sb.2 c (fun h : c = S => nS (h ▸ hc))]
      exact e
    · refine hR s2 (Moved.trans W.gtrans ((m.mono sub).then_heap (Nat.le_succ _) fun c o hc e=>?_) m2) z2
      rw [sb.2 c (fun h:c = S=>hc (by rw [h]; exact List.mem_cons_self))]
      exact e
def fsO (w:World):Obj:={ cls:=.type "set",dict:=none,data:=.set #[] 0 (.fresh 0 0 (!byTx w)) }
theorem fsS (h:Heap):SetS prog w (h.push (fsO w)) h.objs.size [] :=
  ⟨fsO w,#[],0,_,Heap.get?_push_size _ rfl,⟨⟨rfl,rfl,rfl⟩,rfl,fun e he=>by simp at he,List.Perm.refl _,rfl,by decide,rfl,fun h=>absurd h (by decide)⟩⟩
theorem new_setS (v:Value) {Q:Value→Shared→Prop} (q:Q (.ref s.heap.objs.size) { s with heap:=s.heap.push (fsO w) }):codeAny (model prog w) A (.call (.builtin "set.__new__") ⟨[.type "set",v],[]⟩) (wants Q E) s:=by
  refine codeAny_of_tree ?_
  show wpAny _ A.in1 (do { checkBuiltinCall "set.__new__" ⟨[.type "set",v],[]⟩; again (.builtin "set.__new__" ⟨[.type "set",v],[]⟩) }) _ _ s
  refine wpAny_bind (wpAny_of_eq (PySem.F.newCall_set_1 v) (wpAny_pure ⟨plainId_quiet PySem.F.plain_set_new _,codeAny_builtin PySem.F.entry_set_new ?_⟩))
  rw [Around.under_plainId PySem.F.plain_set_new _]; unfold Builtin.«set.__new__» Builtin.Frozenset.newClass
  have sub:=sub_set_self; obtain ⟨hp,g,d,tk,os⟩:=s; dsimp only
  wp_walk
  refine wpAny_askSetting (wpAny_pure ?_); dsimp only; simp only [newObj]
  refine wpAny_bind (wpAny_alloc (wpAny_pure (wpAny_pure ?_)))
  exact q
theorem strs_at:∀ {vs:List Value} {ss:List Str},StrsAre vs ss→∀ (i:Nat) (v:Value),vs[i]? = some v→∃ t,v = .str (ss.getD i ⟨#[]⟩) t
  | _, _, .nil, i, v, h => by simp at h
  | _, _, .cons x t r, 0, v, h => by
    simp at h
    exact ⟨t, h.symm⟩
  | _, _, .cons x t r, i + 1, v, h => by
    simp only [List.getElem?_cons_succ] at h
    obtain ⟨t', e⟩ := strs_at r i v h
    exact ⟨t', by rw [e]; rfl⟩
theorem call_setS {l:Addr} {vs:List Value} {ss:List Str} {Q:Value→Shared→Prop} (hh:A.handled = none) (hl:s.heap.IsList l vs.toArray) (hi:StrsAre vs ss) (hb:vs.length + 1 < scanBound)
    (q:∀ g tk,SetS prog w g s.heap.objs.size (ddn (fun i=>ss.getD i ⟨#[]⟩) vs.length)→(∀ b o,s.heap.get? b = some o→g.get? b = some o)→Q (.ref s.heap.objs.size) { s with heap:=g,toks:=tk }) :
    wpAny (model prog w) A (call (.type "set") [.ref l]) Q E s:=by
  obtain ⟨c, tl, mro⟩ := PySem.F.called_set.mro
  have made := PySem.F.called_set.made
  have sub := PySem.F.called_set.sub
  refine wpAny_call (codeAny_of_tree ?_)
  show wpAny _ _ (callAny (.type "set") _) _ _ _
  refine wpAny_pure ⟨Code.quiet_builtin _ (by decide +kernel),codeAny_builtin PySem.F.entry_type_call ?_⟩
  rw [Around.under_plain (weight_type_call_type "set" [.ref l] []) rfl]
  have z1 := PySem.F.called_set.notType
  have z2 := PySem.F.called_set.canCreate
  have z3 := PySem.F.typeCall_set_1 (.ref l)
  repeat (any_goals (first | assumption | wp_step))
  refine codeAny_mono (new_setS (.ref l) (E:=E) (Q:=fun v s1=>v = .ref s.heap.objs.size∧s1 = { s with heap:=s.heap.push (fsO w) }) ⟨rfl,rfl⟩) fun r s1 hr=>?_
  match r, hr with
  | .error e, hr => exact hr
  | .ok (.ret v), hr =>
    obtain ⟨rfl, rfl⟩ := hr
    have gS:(s.heap.push (fsO w)).get? s.heap.objs.size = some (fsO w):=Heap.get?_push_size _ rfl
    have ty:Shared.TypeIs { s with heap:=s.heap.push (fsO w) } (.ref s.heap.objs.size) "set":=⟨_,gS,rfl⟩
    have z4 := PySem.F.called_set.init.lookup
    have z5:=PySem.F.called_set.init.bind (.ref s.heap.objs.size)
    repeat (any_goals (first | assumption | wp_step))
    refine codeAny_mono (codeAny_call_builtin (R:=wants (fun r s2=>r = .none∧∃ g tk,s2 = { s with heap:=g,toks:=tk }∧SetS prog w g s.heap.objs.size (ddn (fun i=>ss.getD i ⟨#[]⟩) vs.length)∧∀ b o,s.heap.get? b = some o→g.get? b = some o) E)
      PySem.F.called_set.init.plain PySem.F.entry_set_init (check_set_init_1 ty ?_)) fun r2 s2 hr2=>?_
    · obtain ⟨ol, hol, hcl, nl, hdl⟩ := hl
      obtain ⟨oc, od, odt, osl⟩ := ol
      simp only at hcl hdl
      subst hcl hdl
      have hol1:(s.heap.push (fsO w)).get? l = some { cls:=.type "list",dict:=od,data:=.seq vs.toArray nl,slots:=osl }:=Heap.get?_push_of_some _ hol
      have gS1:(s.heap.push (fsO w)).get? s.heap.objs.size = some { cls:=.type "set",dict:=none,data:=.set #[] 0 (.fresh 0 0 (!byTx w)) }:=gS
      have z6 := PySem.F.sub_list_set
      have z7 := PySem.F.sub_list_frozenset
      have z8:(Value.type "list" == Value.type "dict") = false:=by decide
      have hl1:(s.heap.push (fsO w)).IsList l vs.toArray:=⟨_,hol1,rfl,nl,rfl⟩
      have lt : l < s.heap.objs.size := Heap.lt_size hol
      clear gS hol
      generalize hg : s.heap.push (fsO w) = g0 at *
      unfold Builtin.«set.__init__» noKeywords Builtin.Frozenset.updateFrom
      generalize hPI : pyIter = PI
      wp_walk
      subst hPI
      refine wpAny_pyIter_list hl1 ?_
      refine wpAny_bind (wpAny_runValue ?_)
      have sz:g0.objs.size = s.heap.objs.size + 1:=by rw [← hg]; exact Heap.size_push ..
      have neI:l ≠ g0.objs.size:=by rw [sz]; exact Nat.ne_of_lt (Nat.lt_succ_of_lt lt)
      have nf : s.heap.objs.size ∉ [g0.objs.size, l] := by
        rw [sz]
        simp only [List.mem_cons,List.not_mem_nil,or_false,not_or]
        exact ⟨Nat.ne_of_lt (Nat.lt_succ_self _),Nat.ne_of_gt lt⟩
      have hval:∀ (i:Nat) (v:Value),vs.toArray[i]? = some v→∃ t,v = .str ((fun i=>ss.getD i ⟨#[]⟩) i) t:=fun i v hv=>strs_at hi i v (by rw [← hv]; simp)
      refine loopS ((Walks.list (by simp [hh]) _ l neI vs.toArray).toS) s.heap.objs.size nf (fun i=>ss.getD i ⟨#[]⟩) hval (by simpa using hb) (vs.toArray.size - 0) 0 _ (by omega) (Nat.zero_le _) ⟨⟨_,Heap.get?_push_size _ rfl,rfl,rfl⟩,hl1.push _⟩ ?hS0 ?hR
      case hS0 =>
        obtain ⟨o,es,ep,t,h1,h2⟩:=fsS (prog:=prog) (w:=w) s.heap
        rw [hg] at h1
        exact ⟨o,es,ep,t,Heap.get?_push_of_some _ h1,h2⟩
      case hR =>
        intro s' m hS'
        obtain ⟨g', gn, dr, tk, os⟩ := s'
        obtain ⟨m1, m2, m3, m4, m5⟩ := m
        dsimp only at m1 m2 m3 m4 m5
        subst m2 m3 m4
        show wpAny _ _ _ _ _ _
        refine wpAny_pure ?_
        show wpAny _ _ (ret Value.none) _ _ _
        refine wpAny_pure ⟨rfl,g',tk,rfl,?_,fun b o e=>m1 b o ?_ (Heap.get?_push_of_some _ ?_)⟩
        · simpa using hS'
        · have hb := Heap.lt_size e
          rw [sz]
          simp only [List.mem_cons,List.not_mem_nil,or_false,not_or]
          exact ⟨Nat.ne_of_lt hb,Nat.ne_of_lt (Nat.lt_succ_of_lt hb)⟩
        · rw [← hg]
          exact Heap.get?_push_of_some _ e
    · match r2, hr2 with
      | .error e, hr2 => exact hr2
      | .ok (.ret v), hr2 =>
        obtain ⟨rfl, g, tk, rfl, h1, h2⟩ := hr2
        repeat (any_goals (first | assumption | wp_step))
        exact q _ _ h1 h2
      | .ok .next, hr2 => exact hr2.elim
      | .ok .brk, hr2 => exact hr2.elim
      | .ok .cont, hr2 => exact hr2.elim
  | .ok .next, hr => exact hr.elim
  | .ok .brk, hr => exact hr.elim
  | .ok .cont, hr => exact hr.elim
end
end Lw
end
section
set_option Elab.async false
set_option linter.all false
set_option maxRecDepth 100000
set_option maxHeartbeats 4000000
namespace Lw
open PySem PySem.Spec PyProof.Rows L2
theorem sl_sit_next:Slot "set_iterator" "__next__" "set_iterator.__next__":=.of (owner:="set_iterator") (n:="__next__") (by rw [typeLookup_type,builtinLookup_eq_fast]; kernel_rfl) (by decide +kernel) (by decide +kernel) (by decide +kernel) (by first | exact .inl (by decide +kernel) | exact .inr (by decide +kernel)) (by rw [isSubtype_type]; kernel_rfl)
theorem en_sit_next:entryFor table "set_iterator.__next__" = some Builtin.«set_iterator.__next__»:=entryFor_of_tree (by kernel_rfl)
theorem en_set_iter:entryFor table "set.__iter__" = some Builtin.«frozenset.__iter__»:=entryFor_alias (id':="frozenset.__iter__") (by kernel_rfl) rfl (by decide +kernel) (by kernel_rfl)
def SI (h:Heap) (I:Addr) (f:Value) (i:Nat) (a:Addr) (n ep:Nat):Prop:=∃ o,h.get? I = some o∧o.cls = .type "set_iterator"∧o.data = .fields #[f,.int i 0,.ref a,.int n 0,.int ep 0]
theorem SI.mv {h h':Heap} {I a:Addr} {f:Value} {i n ep:Nat} (x:SI h I f i a n ep) (q:∀ o,h.get? I = some o→h'.get? I = some o):SI h' I f i a n ep:=by
  obtain ⟨o, e, r⟩ := x
  exact ⟨o, q o e, r⟩
theorem pick_go {α:Type} (nx:Nat→Nat):∀ (fuel k:Nat) (left:List α) (out:Array α),left.length = fuel→(pickOrder.go nx fuel k left out).toList.Perm (out.toList ++ left)
  | 0, k, left, out, h => by
    have : left = [] := List.length_eq_zero_iff.mp h
    subst this
    rw [List.append_nil]
    exact List.Perm.refl _
  | fuel + 1, k, left, out, h => by
    have hp : 0 < left.length := by omega
    have hj:nx k % left.length < left.length:=Nat.mod_lt _ hp
    have e:left[nx k % left.length]? = some left[nx k % left.length]:=List.getElem?_eq_getElem hj
    unfold pickOrder.go
    rw [e]
    dsimp only
    refine (pick_go nx fuel (k + 1) _ _ (by rw [List.length_eraseIdx_of_lt hj,h]; rfl)).trans ?_
    rw [Array.toList_push, List.append_assoc]
    exact (erase_perm left _ _ e).append_left _
theorem pick_perm {α:Type} (nx:Nat→Nat) (xs:Array α):(pickOrder nx xs).toList.Perm xs.toList:=by
  have := pick_go nx xs.size 0 xs.toList #[] (by simp)
  simpa [pickOrder] using this
section
variable {prog:Program} {w:World} {A:Around} {E:Value→Shared→Prop} {s:Shared}
theorem wp_chs {M:Model} {src:Source} {n:Nat} {Q:Nat→Shared→Prop} (hn:n ≠ 0) (q:∀ i d,i < n→Q i { s with drawn:=d }):wpAny M A (choose src n) Q E s :=
  fun _ _ _=>⟨hn,q _ _ (Nat.mod_lt _ (Nat.pos_of_ne_zero hn))⟩
theorem draw_perm {M:Model} {α:Type}:∀ (n:Nat) (xs:List α) (s:Shared) {Q:List α→Shared→Prop},xs.length = n→(∀ ys d,ys.Perm xs→Q ys { s with drawn:=d })→wpAny M A (drawOrder n xs) Q E s
  | 0, xs, s, Q, h, q => by
    have : xs = [] := List.length_eq_zero_iff.mp h
    subst this
    unfold drawOrder
    exact wpAny_pure (q [] s.drawn (List.Perm.refl _))
  | n + 1, [], s, Q, h, q => by simp at h
  | n + 1, x :: xs, s, Q, h, q => by
    unfold drawOrder
    refine wpAny_bind (wp_chs (by simp) fun i d hi => ?_)
    have e:(x :: xs)[i]? = some (x :: xs)[i]:=List.getElem?_eq_getElem hi
    rw [e]
    dsimp only
    refine wpAny_bind (draw_perm n _ _ (by rw [List.length_eraseIdx_of_lt hi,h]; rfl) fun ys d' hp=>wpAny_pure ?_)
    exact q _ d' ((hp.cons _).trans (erase_perm _ _ _ e))
theorem nextI_item {I a:Addr} {slot nx i:Nat} {o:Obj} {ss:List Str} {es:Array (Int × Value)} {ep:Nat} {t:SetTable} {x:Value} {Q:Option Value→Shared→Prop} (hit:SI s.heap I (.int slot 0) i a es.size ep) (ho:s.heap.get? a = some o) (S:SetO prog w o ss es ep t)
    (hn:∀ (Q':Option (Value × Nat)→Shared→Prop) (E':Value→Shared→Prop),Q' (some (x,nx)) s→wpAny (model prog w) A.in1 (setNext a slot i ep) Q' E' s)
    (q:∀ g,SI g I (.int nx 0) (i + 1) a es.size ep→Heap.SameBut I s.heap g→Q (some x) { s with heap:=g }):wpAny (model prog w) A (pyNext (.ref I)) Q E s:=by
  obtain ⟨io, e1, c1, d1⟩ := id hit
  have ty : s.TypeIs (.ref I) "set_iterator" := ⟨io, e1, c1⟩
  unfold pyNext
  refine wpAny_bind (wpAny_attempt (wpAny_callSpecial?_slot (name:=Str.ofString "__next__") ty sl_sit_next (wpAny_call_entry sl_sit_next ty en_sit_next ?_)))
  unfold Builtin.«set_iterator.__next__»
  refine wpAny_bind (m:=slotArgs "__next__" 0 _) (wpAny_pure ?_)
  refine wpAny_bind (wpAny_fieldsOf e1 d1 ?_)
  dsimp only
  refine wpAny_bind (wpAny_setEntries_of ho S.dat S.fit ?_)
  simp only [bne_self_eq_false,Bool.false_eq_true,if_false,Int.toNat_natCast]
  refine wpAny_bind (hn _ _ ?_)
  dsimp only
  refine wpAny_bind (wpAny_setField e1 d1 (by simp) ?_)
  have g1:=Heap.get?_update_self (Obj.mapFields (·.setIfInBounds 0 (rawInt (nx:Int)))) e1 (Obj.isFreed_of_fields (Obj.data_mapFields d1 _))
  have d2:=Obj.data_mapFields d1 (·.setIfInBounds 0 (rawInt (nx:Int)))
  refine wpAny_bind (wpAny_setField g1 d2 (by simp) ?_)
  refine wpAny_pure ⟨_,rfl,wpAny_pure (q _ ?_ ((Heap.SameBut.update ..).trans (Heap.SameBut.update ..)))⟩
  refine ⟨_,Heap.get?_update_self _ g1 (Obj.isFreed_of_fields (Obj.data_mapFields d2 _)),(Obj.cls_mapFields ..).trans ((Obj.cls_mapFields ..).trans c1),?_⟩
  rw [Obj.data_mapFields d2]
  simp [rawInt]
theorem nextI_end {I a:Addr} {slot i:Nat} {o:Obj} {ss:List Str} {es:Array (Int × Value)} {ep:Nat} {t:SetTable} {Q:Option Value→Shared→Prop} (hh:A.handled = none) (hit:SI s.heap I (.int slot 0) i a es.size ep) (ho:s.heap.get? a = some o) (S:SetO prog w o ss es ep t)
    (hn:∀ (Q':Option (Value × Nat)→Shared→Prop) (E':Value→Shared→Prop),Q' none s→wpAny (model prog w) A.in1 (setNext a slot i ep) Q' E' s)
    (q:∀ g,Heap.ExtBut I s.heap g→Q none { s with heap:=g }):wpAny (model prog w) A (pyNext (.ref I)) Q E s:=by
  obtain ⟨io, e1, c1, d1⟩ := id hit
  have ty : s.TypeIs (.ref I) "set_iterator" := ⟨io, e1, c1⟩
  unfold pyNext
  refine wpAny_bind (wpAny_attempt (wpAny_callSpecial?_slot (name:=Str.ofString "__next__") ty sl_sit_next (wpAny_call_entry sl_sit_next ty en_sit_next ?_)))
  unfold Builtin.«set_iterator.__next__»
  refine wpAny_bind (m:=slotArgs "__next__" 0 _) (wpAny_pure ?_)
  refine wpAny_bind (wpAny_fieldsOf e1 d1 ?_)
  dsimp only
  refine wpAny_bind (wpAny_setEntries_of ho S.dat S.fit ?_)
  simp only [bne_self_eq_false,Bool.false_eq_true,if_false,Int.toNat_natCast]
  refine wpAny_bind (hn _ _ ?_)
  dsimp only
  refine wpAny_bind (wpAny_setField e1 d1 (by simp) ?_)
  show wpAny _ _ (newExc (.type "StopIteration") [] >>= _) _ _ _; refine wpAny_bind ?_; simp only [newExc,newTuple]
  refine wpAny_bind (wpAny_newObj_type ?_ (by size_fits)); refine wpAny_bind (m:=firstArgMember _ _) (wpAny_of_eq (a:=Value.none) (by first | rfl | (simp only [firstArgMember]; rfl)) ?_)
  refine wpAny_newObj_type ?_ (by size_fits); simp only [raiseNew]; refine wpAny_bind (wpAny_handled ?_); rw [show A.in1.handled = none from hh]
  refine wpAny_bind (wpAny_pure (wpAny_throw ?_))
  exact wpAny_bind (wpAny_isInstance (T:="StopIteration") (b:=true) ⟨_,Heap.get?_push_size _ rfl,rfl⟩ isSubtype_stop (wpAny_pure (q _ (((Heap.SameBut.update ..).extBut.push _).push _))))
theorem nextD_item {I a T:Addr} {i p:Nat} {o oT:Obj} {ss:List Str} {es:Array (Int × Value)} {ep nT:Nat} {t:SetTable} {vs:Array Value} {x:Int × Value} {Q:Option Value→Shared→Prop} (hit:SI s.heap I (.ref T) i a es.size ep) (ho:s.heap.get? a = some o) (S:SetO prog w o ss es ep t)
    (hT:s.heap.get? T = some oT) (dT:oT.data = .seq vs nT) (hv:vs[i]? = some (.int p 0)) (hx:es[p]? = some x)
    (q:∀ g,SI g I (.ref T) (i + 1) a es.size ep→Heap.SameBut I s.heap g→Q (some x.2) { s with heap:=g }):wpAny (model prog w) A (pyNext (.ref I)) Q E s:=by
  obtain ⟨io, e1, c1, d1⟩ := id hit
  have ty : s.TypeIs (.ref I) "set_iterator" := ⟨io, e1, c1⟩
  unfold pyNext
  refine wpAny_bind (wpAny_attempt (wpAny_callSpecial?_slot (name:=Str.ofString "__next__") ty sl_sit_next (wpAny_call_entry sl_sit_next ty en_sit_next ?_)))
  unfold Builtin.«set_iterator.__next__»
  refine wpAny_bind (m:=slotArgs "__next__" 0 _) (wpAny_pure ?_)
  refine wpAny_bind (wpAny_fieldsOf e1 d1 ?_)
  dsimp only
  refine wpAny_bind (wpAny_setEntries_of ho S.dat S.fit ?_)
  simp only [bne_self_eq_false,Bool.false_eq_true,if_false,Int.toNat_natCast]
  refine wpAny_bind (wpAny_seqItems hT dT ?_)
  dsimp only
  rw [hv]
  dsimp only
  simp only [Int.toNat_natCast]
  unfold setNextDrawn
  refine wpAny_bind (wpAny_bind (wpAny_setState_of ho S.dat S.fit ?_))
  dsimp only
  simp only [bne_self_eq_false,Bool.false_eq_true,if_false]
  rw [hx]
  dsimp only
  refine wpAny_pure ?_
  refine wpAny_bind (wpAny_setField e1 d1 (by simp) (wpAny_pure ⟨_,rfl,wpAny_pure (q _ ?_ (Heap.SameBut.update ..))⟩))
  refine ⟨_,Heap.get?_update_self _ e1 (Obj.isFreed_of_fields (Obj.data_mapFields d1 _)),(Obj.cls_mapFields ..).trans c1,?_⟩
  rw [Obj.data_mapFields d1]
  simp [rawInt]
theorem nextD_end {I a T:Addr} {i:Nat} {o oT:Obj} {ss:List Str} {es:Array (Int × Value)} {ep nT:Nat} {t:SetTable} {vs:Array Value} {Q:Option Value→Shared→Prop} (hh:A.handled = none) (hit:SI s.heap I (.ref T) i a es.size ep) (ho:s.heap.get? a = some o) (S:SetO prog w o ss es ep t)
    (hT:s.heap.get? T = some oT) (dT:oT.data = .seq vs nT) (hv:vs[i]? = none)
    (q:∀ g,Heap.ExtBut I s.heap g→Q none { s with heap:=g }):wpAny (model prog w) A (pyNext (.ref I)) Q E s:=by
  obtain ⟨io, e1, c1, d1⟩ := id hit
  have ty : s.TypeIs (.ref I) "set_iterator" := ⟨io, e1, c1⟩
  unfold pyNext
  refine wpAny_bind (wpAny_attempt (wpAny_callSpecial?_slot (name:=Str.ofString "__next__") ty sl_sit_next (wpAny_call_entry sl_sit_next ty en_sit_next ?_)))
  unfold Builtin.«set_iterator.__next__»
  refine wpAny_bind (m:=slotArgs "__next__" 0 _) (wpAny_pure ?_)
  refine wpAny_bind (wpAny_fieldsOf e1 d1 ?_)
  dsimp only
  refine wpAny_bind (wpAny_setEntries_of ho S.dat S.fit ?_)
  simp only [bne_self_eq_false,Bool.false_eq_true,if_false,Int.toNat_natCast]
  refine wpAny_bind (wpAny_seqItems hT dT ?_)
  dsimp only
  rw [hv]
  dsimp only
  refine wpAny_bind (wpAny_setField e1 d1 (by simp) ?_)
  have g1:=Heap.get?_update_self (Obj.mapFields (·.setIfInBounds 0 (rawInt 0))) e1 (Obj.isFreed_of_fields (Obj.data_mapFields d1 _))
  have d2:=Obj.data_mapFields d1 (·.setIfInBounds 0 (rawInt 0))
  refine wpAny_bind (wpAny_setField g1 d2 (by simp) ?_)
  show wpAny _ _ (newExc (.type "StopIteration") [] >>= _) _ _ _; refine wpAny_bind ?_; simp only [newExc,newTuple]
  refine wpAny_bind (wpAny_newObj_type ?_ (by size_fits)); refine wpAny_bind (m:=firstArgMember _ _) (wpAny_of_eq (a:=Value.none) (by first | rfl | (simp only [firstArgMember]; rfl)) ?_)
  refine wpAny_newObj_type ?_ (by size_fits); simp only [raiseNew]; refine wpAny_bind (wpAny_handled ?_); rw [show A.in1.handled = none from hh]
  refine wpAny_bind (wpAny_pure (wpAny_throw ?_))
  exact wpAny_bind (wpAny_isInstance (T:="StopIteration") (b:=true) ⟨_,Heap.get?_push_size _ rfl,rfl⟩ isSubtype_stop (wpAny_pure (q _ ((((Heap.SameBut.update ..).trans (Heap.SameBut.update ..)).extBut.push _).push _))))
theorem next_tx {a:Addr} {slot i:Nat} {o:Obj} {ss:List Str} {es:Array (Int × Value)} {ep:Nat} {t:SetTable} {Q:Option (Value × Nat)→Shared→Prop} (ho:s.heap.get? a = some o) (S:SetO prog w o ss es ep t) (hb:byTx w = true)
    (q:Q (((pickOrder (w.params.setOrder a ep) es)[i]?).map fun e=>(e.2,slot)) s):wpAny (model prog w) A (setNext a slot i ep) Q E s:=by
  have hb':(model prog w).w.params.followText "set-order" = true:=hb
  unfold setNext
  refine wpAny_bind (wpAny_setState_of ho S.dat S.fit ?_)
  dsimp only
  unfold setsByText
  refine wpAny_bind (wpAny_bind (wpAny_askSetting (wpAny_pure ?_)))
  dsimp only
  rw [hb']
  simp only [↓reduceIte,bne_self_eq_false,Bool.false_eq_true,if_false]
  unfold setWalk
  refine wpAny_bind (wpAny_bind (wpAny_setState_of ho S.dat S.fit ?_))
  dsimp only
  unfold setsByText
  refine wpAny_bind (wpAny_bind (wpAny_askSetting (wpAny_pure ?_)))
  dsimp only
  rw [hb']
  simp only [↓reduceIte]
  refine wpAny_bind (wpAny_askSetting (wpAny_pure (wpAny_pure ?_)))
  exact q
theorem next_few {a:Addr} {slot i:Nat} {o:Obj} {ss:List Str} {es:Array (Int × Value)} {ep:Nat} {t:SetTable} {Q:Option (Value × Nat)→Shared→Prop} (ho:s.heap.get? a = some o) (S:SetO prog w o ss es ep t) (hb:byTx w = false) (hz:es.size ≤ 1)
    (q:Q (match es[SetTable.below t.place slot]?,t.place[SetTable.below t.place slot]? with | some (_,x),some j=>some (x,j + 1) | _,_=>none) s):wpAny (model prog w) A (setNext a slot i ep) Q E s:=by
  have hb':(model prog w).w.params.followText "set-order" = false:=hb
  have hl : t.led = true := by rw [S.led, hb]; rfl
  unfold setNext
  refine wpAny_bind (wpAny_setState_of ho S.dat S.fit ?_)
  dsimp only
  unfold setsByText
  refine wpAny_bind (wpAny_bind (wpAny_askSetting (wpAny_pure ?_)))
  dsimp only
  rw [hb']
  simp only [Bool.false_eq_true, if_false]
  split
  · rename_i h
    have h' : (!t.plain && decide (es.size > 1)) = true := h
    have:decide (es.size > 1) = false:=decide_eq_false (by omega)
    rw [this, Bool.and_false] at h'
    cases h'
  · refine wpAny_bind ?_
    show wpAny _ _ (if (!t.led && !es.isEmpty) = true then _ else _) _ _ _
    rw [hl, if_neg (by simp)]
    exact wpAny_pure (wpAny_pure q)
theorem below0 (p : Nat) : SetTable.below #[p] 0 = 0 := by
  unfold SetTable.below
  simp [SetTable.below.go]
theorem below1 (p:Nat):SetTable.below #[p] (p + 1) = 1:=by
  unfold SetTable.below
  simp [SetTable.below.go]
theorem sl_sit_iter:Slot "set_iterator" "__iter__" "set_iterator.__iter__":=.of (owner:="set_iterator") (n:="__iter__") (by rw [typeLookup_type,builtinLookup_eq_fast]; kernel_rfl) (by decide +kernel) (by decide +kernel) (by decide +kernel) (by first | exact .inl (by decide +kernel) | exact .inr (by decide +kernel)) (by rw [isSubtype_type]; kernel_rfl)
theorem en_sit_iter:entryFor table "set_iterator.__iter__" = some Builtin.«dict_keyiterator.__iter__»:=entryFor_alias (id':="dict_keyiterator.__iter__") (by kernel_rfl) rfl (by decide +kernel) (by kernel_rfl)
theorem self_sit {I a:Addr} {f:Value} {i n ep:Nat} {Q:Value→Shared→Prop} (hit:SI s.heap I f i a n ep) (q:Q (.ref I) s):wpAny (model prog w) A (pyIter (.ref I)) Q E s:=by
  obtain ⟨io, e1, c1, d1⟩ := hit
  have ty : s.TypeIs (.ref I) "set_iterator" := ⟨io, e1, c1⟩
  refine wpAny_pyIter_slot ty sl_sit_iter (wpAny_call_entry sl_sit_iter ty en_sit_iter ?_)
  show wpAny _ _ (ret (.ref I)) _ _ s
  exact wpAny_pure ⟨_,rfl,"set_iterator",_,ty,sl_sit_next.lookup,q⟩
theorem sb_moved {I:Addr} {g:Heap} (sb:Heap.ExtBut I s.heap g):Moved [I] (fun a b=>b = a) s { s with heap:=g } :=
  ⟨fun b o hb e=>sb b o (fun z=>hb (by rw [z]; exact List.mem_cons_self)) e,rfl,rfl,rfl,Nat.le_refl _⟩
theorem walk_tx {I a:Addr} {o:Obj} {ss:List Str} {es:Array (Int × Value)} {ep:Nat} {t:SetTable} (S:SetO prog w o ss es ep t) (hb:byTx w = true) (ne:a ≠ I) {B:Around} (hh:B.handled = none) :
    WalksS prog w B I [I,a] [I] (fun a b=>b = a) es.size (fun i v=>((pickOrder (w.params.setOrder a ep) es).toList.map (·.2))[i]? = some v) (fun i s=>SI s.heap I (.int (0:Nat) 0) i a es.size ep∧s.heap.get? a = some o) where
  sub := fun b hb => by simp at hb; simp [hb]
  grefl := fun _ => rfl
  gtrans := fun _ _ _ h1 h2 => h2.trans h1
  frame:=fun i s h' _ st _ k=>⟨st.1.mv fun o e=>k I (by simp) o e,k a (by simp) _ st.2⟩
  item := fun i s Q E hi st hQ => by
    have hz:(pickOrder (w.params.setOrder a ep) es).size = es.size:=by rw [← Array.length_toList,(pick_perm _ es).length_eq,Array.length_toList]
    have e:(pickOrder (w.params.setOrder a ep) es)[i]? = some (pickOrder (w.params.setOrder a ep) es)[i]:=Array.getElem?_eq_getElem (by omega)
    refine nextI_item (slot:=0) (nx:=0) st.1 st.2 S (fun Q' E' h=>next_tx st.2 S hb (by rw [e]; exact h)) fun g hg sb=>hQ _ _ ?_ ⟨hg,sb.extBut a _ ne st.2⟩ (sb_moved sb.extBut)
    rw [List.getElem?_map, Array.getElem?_toList, e]
    rfl
  done := fun s Q E st hQ => by
    have hz:(pickOrder (w.params.setOrder a ep) es).size = es.size:=by rw [← Array.length_toList,(pick_perm _ es).length_eq,Array.length_toList]
    have e:(pickOrder (w.params.setOrder a ep) es)[es.size]? = none:=Array.getElem?_eq_none (by omega)
    exact nextI_end hh st.1 st.2 S (fun Q' E' h=>next_tx st.2 S hb (by rw [e]; exact h)) fun g sb=>hQ _ (sb_moved sb)
  self := fun i s Q E st hQ => self_sit st.1 hQ
theorem walk_dr {I a T:Addr} {o oT:Obj} {ss:List Str} {es:Array (Int × Value)} {ep nT:Nat} {t:SetTable} (S:SetO prog w o ss es ep t) (ps:List Nat) (hp:∀ p ∈ ps,p < es.size) (hl:ps.length = es.size) (dT:oT.data = .seq (ps.map fun (p:Nat)=>rawInt p).toArray nT) (ne:a ≠ I) (neT:T ≠ I) {B:Around} (hh:B.handled = none) :
    WalksS prog w B I [I,a,T] [I] (fun a b=>b = a) es.size (fun i v=>(ps.map fun p=>((es[p]?).map (·.2)).getD .none)[i]? = some v) (fun i s=>SI s.heap I (.ref T) i a es.size ep∧s.heap.get? a = some o∧s.heap.get? T = some oT) where
  sub := fun b hb => by simp at hb; simp [hb]
  grefl := fun _ => rfl
  gtrans := fun _ _ _ h1 h2 => h2.trans h1
  frame:=fun i s h' _ st _ k=>⟨st.1.mv fun o e=>k I (by simp) o e,k a (by simp) _ st.2.1,k T (by simp) _ st.2.2⟩
  item := fun i s Q E hi st hQ => by
    have hi' : i < ps.length := by omega
    have h1:((ps.map fun (p:Nat)=>rawInt p).toArray)[i]? = some (.int (ps[i]:Nat) 0):=by
      rw [List.getElem?_toArray,List.getElem?_map,List.getElem?_eq_getElem hi']
      rfl
    have h2 := hp ps[i] (List.getElem_mem hi')
    have h3:es[ps[i]]? = some es[ps[i]]:=Array.getElem?_eq_getElem h2
    refine nextD_item st.1 st.2.1 S st.2.2 dT h1 h3 fun g hg sb=>hQ _ _ ?_ ⟨hg,sb.extBut a _ ne st.2.1,sb.extBut T _ neT st.2.2⟩ (sb_moved sb.extBut)
    rw [List.getElem?_map, List.getElem?_eq_getElem hi']
    simp [h3]
  done := fun s Q E st hQ => by
    have h1:((ps.map fun (p:Nat)=>rawInt p).toArray)[es.size]? = none:=by
      rw [List.getElem?_toArray,List.getElem?_map,List.getElem?_eq_none (by omega)]
      rfl
    exact nextD_end hh st.1 st.2.1 S st.2.2 dT h1 fun g sb=>hQ _ (sb_moved sb)
  self := fun i s Q E st hQ => self_sit st.1 hQ
theorem walk_few {I a:Addr} {o:Obj} {ss:List Str} {es:Array (Int × Value)} {ep:Nat} {t:SetTable} (S:SetO prog w o ss es ep t) (hb:byTx w = false) (hz:es.size ≤ 1) (ne:a ≠ I) {B:Around} (hh:B.handled = none) :
    WalksS prog w B I [I,a] [I] (fun a b=>b = a) es.size (fun i v=>(es.toList.map (·.2))[i]? = some v) (fun i s=>(∃ slot:Nat,SI s.heap I (.int slot 0) i a es.size ep∧(i = 0→slot = 0)∧(i = 1→∀ p,t.place = #[p]→slot = p + 1))∧s.heap.get? a = some o) where
  sub := fun b hb => by simp at hb; simp [hb]
  grefl := fun _ => rfl
  gtrans := fun _ _ _ h1 h2 => h2.trans h1
  frame := fun i s h' _ st _ k => by
    obtain ⟨⟨slot, st, r⟩, st2⟩ := st
    exact ⟨⟨slot,st.mv fun o e=>k I (by simp) o e,r⟩,k a (by simp) _ st2⟩
  item := fun i s Q E hi st hQ => by
    obtain ⟨⟨slot, st, r, _⟩, st2⟩ := st
    have i0 : i = 0 := by omega
    have z1 : es.size = 1 := by omega
    subst i0
    have hs := r rfl
    subst hs
    obtain ⟨e,he⟩:∃ e,es = #[e]:=Array.size_eq_one_iff.mp z1
    have pz : t.place.size = 1 := by
      have := S.fit
      simp only [SetTable.fits,Bool.and_eq_true,beq_iff_eq] at this
      rw [this.1, z1]
    obtain ⟨p,hp⟩:∃ p,t.place = #[p]:=Array.size_eq_one_iff.mp pz
    refine nextI_item (slot:=0) (nx:=p + 1) (x:=e.2) st st2 S (fun Q' E' h=>next_few st2 S hb hz ?_) fun g hg sb=>hQ _ _ ?_ ⟨⟨p + 1,hg,fun z=>absurd z (by decide),fun _ p' hp'=>?_⟩,sb.extBut a _ ne st2⟩ (sb_moved sb.extBut)
    · rw [hp, below0, he]
      exact h
    · rw [he]
      rfl
    · rw [hp] at hp'
      cases hp'
      rfl
  done := fun s Q E st hQ => by
    obtain ⟨⟨slot, st, r0, r1⟩, st2⟩ := st
    refine nextI_end hh st st2 S (fun Q' E' h=>next_few st2 S hb hz ?_) fun g sb=>hQ _ (sb_moved sb)
    have : es.size = 0 ∨ es.size = 1 := by omega
    rcases this with z | z
    · have e0:es[SetTable.below t.place slot]? = none:=Array.getElem?_eq_none (by omega)
      rw [e0]
      exact h
    · have pz : t.place.size = 1 := by
        have := S.fit
        simp only [SetTable.fits,Bool.and_eq_true,beq_iff_eq] at this
        rw [this.1, z]
      obtain ⟨p,hp⟩:∃ p,t.place = #[p]:=Array.size_eq_one_iff.mp pz
      have hs := r1 z p hp
      subst hs
      have e0:es[SetTable.below t.place (p + 1)]? = none:=by
        rw [hp, below1]
        exact Array.getElem?_eq_none (by omega)
      rw [e0]
      exact h
  self := fun i s Q E st hQ => by
    obtain ⟨⟨slot, st, _⟩, _⟩ := st
    exact self_sit st hQ
theorem strs_el {o:Obj} {ss:List Str} {es:Array (Int × Value)} {ep:Nat} {t:SetTable} (S:SetO prog w o ss es ep t) {e:Int × Value} (h:e ∈ es.toList):∃ x tk,e.2 = .str x tk:=by
  obtain ⟨⟨k, hk, _⟩, _⟩ := S.el e h
  obtain ⟨tk, z⟩ := Value.isStrOf_shape hk
  exact ⟨k, tk, z⟩
theorem iterS {a:Addr} {o:Obj} {ss:List Str} {es:Array (Int × Value)} {ep:Nat} {t:SetTable} {Q:Value→Shared→Prop} (ho:s.heap.get? a = some o) (S:SetO prog w o ss es ep t)
    (q:∀ (I:Addr) (g:Heap) (d:Drawn) (xs:List Value) (fp:List Addr) (St:Nat→Shared→Prop),(∀ b o,s.heap.get? b = some o→g.get? b = some o)→s.heap.objs.size ≤ I→I ∈ fp→(∀ b ∈ fp,b = a ∨ s.heap.objs.size ≤ b∧b < g.objs.size)→(xs.map strOf).Perm ss →
      (∀ v ∈ xs,∃ x tk,v = .str x tk)→xs.length = es.size→(∀ B:Around,B.handled = none→WalksS prog w B I fp [I] (fun a b=>b = a) es.size (fun i v=>xs[i]? = some v) St)→St 0 { s with heap:=g,drawn:=d }→Q (.ref I) { s with heap:=g,drawn:=d }) :
    wpAny (model prog w) A (pyIter (.ref a)) Q E s := by
  have ty : s.TypeIs (.ref a) "set" := ⟨o, ho, S.ex.1⟩
  have la : a < s.heap.objs.size := Heap.lt_size ho
  refine wpAny_pyIter_slot ty PySem.F.slot_set_iter (wpAny_call_entry PySem.F.slot_set_iter ty en_set_iter ?_ (PySem.F.args_set_iter_1 _))
  unfold Builtin.«frozenset.__iter__» Builtin.Frozenset.slot0
  refine wpAny_bind (wpAny_bind (m:=slotArgs "__iter__" 0 _) (wpAny_pure (wpAny_pure ?_)))
  unfold Builtin.Frozenset.sizeOf
  refine wpAny_bind (wpAny_bind (wpAny_setEntries_of ho S.dat S.fit (wpAny_pure ?_)))
  unfold setDrawn
  refine wpAny_bind (wpAny_bind (wpAny_setState_of ho S.dat S.fit ?_))
  dsimp only
  unfold setsByText
  refine wpAny_bind (wpAny_bind (wpAny_askSetting (wpAny_pure ?_)))
  dsimp only
  refine wpAny_pure ?_
  split
  · rename_i hc
    have hc':(!byTx w && (!t.plain && decide (es.size > 1))) = true:=hc
    have hb : byTx w = false := by
      cases h : byTx w with
      | false => rfl
      | true => rw [h] at hc'; simp at hc'
    have h1 : 1 < es.size := by
      have : decide (es.size > 1) = true := by
        cases h : decide (es.size > 1) with
        | true => rfl
        | false => rw [h] at hc'; simp at hc'
      exact of_decide_eq_true this
    refine wpAny_bind (draw_perm es.size _ s (by simp) fun ps d hp=>?_)
    have hl:ps.length = es.size:=by rw [hp.length_eq,List.length_range]
    have hlt:∀ p ∈ ps,p < es.size:=fun p h=>List.mem_range.mp (hp.mem_iff.mp h)
    have hs : es.size ≤ sizeLine := fits_of_scanBound S.bd
    refine wpAny_bind (wpAny_newTuple ?_ (by rw [List.length_map,hl]; exact hs))
    have ho1:(s.heap.push { cls:=.type "tuple",data:=.seq (ps.map fun (p:Nat)=>rawInt p).toArray }).get? a = some o:=Heap.get?_push_of_some _ ho
    refine wpAny_bind (wpAny_setEpoch_of (s:={ s with heap:=_,drawn:=d }) ho1 S.dat S.fit ?_)
    refine wpAny_bind (wpAny_newObj_type ?_ (by size_fits))
    have hT:(s.heap.push { cls:=.type "tuple",data:=.seq (ps.map fun (p:Nat)=>rawInt p).toArray }).get? s.heap.objs.size = some _:=Heap.get?_push_size _ rfl
    have e1:(s.heap.push { cls:=.type "tuple",data:=.seq (ps.map fun (p:Nat)=>rawInt p).toArray }).objs.size = s.heap.objs.size + 1:=Heap.size_push ..
    refine wpAny_pure ⟨_,rfl,"set_iterator",_,⟨_,Heap.get?_push_size _ rfl,rfl⟩,sl_sit_next.lookup,?_⟩
    have neA:a ≠ (s.heap.push { cls:=.type "tuple",data:=.seq (ps.map fun (p:Nat)=>rawInt p).toArray }).objs.size:=by rw [e1]; exact Nat.ne_of_lt (Nat.lt_succ_of_lt la)
    have neT:s.heap.objs.size ≠ (s.heap.push { cls:=.type "tuple",data:=.seq (ps.map fun (p:Nat)=>rawInt p).toArray }).objs.size:=by rw [e1]; exact Nat.ne_of_lt (Nat.lt_succ_self _)
    refine q _ _ d (ps.map fun p=>((es[p]?).map (·.2)).getD .none) [_,a,s.heap.objs.size] _ (fun b o e=>Heap.get?_push_of_some _ (Heap.get?_push_of_some _ e)) (by simp only [e1]; omega) List.mem_cons_self ?_ ?_ ?_ (by rw [List.length_map,hl]) (fun B hh=>walk_dr S ps hlt hl rfl neA neT hh) ⟨⟨_,Heap.get?_push_size _ rfl,rfl,rfl⟩,Heap.get?_push_of_some _ ho1,Heap.get?_push_of_some _ hT⟩
    · intro b hb
      simp only [List.mem_cons,List.not_mem_nil,or_false] at hb
      rcases hb with rfl | rfl | rfl
      · exact .inr ⟨by rw [e1]; exact Nat.le_succ _,by simp only [Heap.size_push]; exact Nat.lt_succ_self _⟩
      · exact .inl rfl
      · exact .inr ⟨Nat.le_refl _,by rw [Heap.size_push,e1]; exact Nat.lt_succ_of_lt (Nat.lt_succ_self _)⟩
    · have r:((List.range es.size).map fun p=>((es[p]?).map (·.2)).getD .none) = es.toList.map (·.2):=by
        apply List.ext_getElem?
        intro i
        simp only [List.getElem?_map]
        by_cases hi : i < es.size
        · simp [hi]
        · simp [hi]
      have:=((hp.map fun p=>((es[p]?).map (·.2)).getD .none).map strOf)
      rw [r] at this
      exact this.trans (by rw [List.map_map]; exact S.pm)
    · intro v hv
      obtain ⟨p, h, rfl⟩ := List.mem_map.mp hv
      have hp' := hlt p h
      obtain ⟨x, tk, z⟩ := strs_el S (e := es[p]) (by simp)
      exact ⟨x, tk, by simp [hp', z]⟩
  · rename_i hc
    have hc':¬ (!byTx w && (!t.plain && decide (es.size > 1))) = true:=hc
    refine wpAny_bind (wpAny_pure (wpAny_bind (wpAny_setEpoch_of ho S.dat S.fit ?_)))
    refine wpAny_bind (wpAny_newObj_type ?_ (by size_fits))
    refine wpAny_pure ⟨_,rfl,"set_iterator",_,⟨_,Heap.get?_push_size _ rfl,rfl⟩,sl_sit_next.lookup,?_⟩
    have keep:∀ {ob:Obj} (b:Addr) (o:Obj),s.heap.get? b = some o→(s.heap.push ob).get? b = some o:=fun b o e=>Heap.get?_push_of_some _ e
    have fpk:∀ {ob:Obj} (b:Addr),b ∈ [s.heap.objs.size,a]→b = a ∨ s.heap.objs.size ≤ b∧b < (s.heap.push ob).objs.size:=fun b hb=>by
      simp only [List.mem_cons,List.not_mem_nil,or_false] at hb
      rcases hb with rfl | rfl
      · exact .inr ⟨Nat.le_refl _,by rw [Heap.size_push]; exact Nat.lt_succ_self _⟩
      · exact .inl rfl
    cases hb : byTx w with
    | true =>
      refine q _ _ s.drawn ((pickOrder (w.params.setOrder a ep) es).toList.map (·.2)) [_,a] _ keep (Nat.le_refl _) List.mem_cons_self fpk ?_ ?_ ?_ (fun B hh=>walk_tx S hb (Nat.ne_of_lt la) hh) ⟨⟨_,Heap.get?_push_size _ rfl,rfl,rfl⟩,Heap.get?_push_of_some _ ho⟩
      · rw [List.map_map]
        exact ((pick_perm _ es).map tx).trans S.pm
      · intro v hv
        obtain ⟨e, h, rfl⟩ := List.mem_map.mp hv
        exact strs_el S ((pick_perm _ es).mem_iff.mp h)
      · rw [List.length_map,(pick_perm _ es).length_eq,Array.length_toList]
    | false =>
      have hz : es.size ≤ 1 := by
        refine Nat.le_of_not_lt fun h => hc' ?_
        rw [hb, S.pl (by omega)]
        simpa using h
      refine q _ _ s.drawn (es.toList.map (·.2)) [_,a] _ keep (Nat.le_refl _) List.mem_cons_self fpk ?_ ?_ (by simp) (fun B hh=>walk_few S hb hz (Nat.ne_of_lt la) hh) ⟨⟨0,⟨_,Heap.get?_push_size _ rfl,rfl,rfl⟩,fun _=>rfl,fun h=>absurd h (by decide)⟩,Heap.get?_push_of_some _ ho⟩
      · rw [List.map_map]
        exact S.pm
      · intro v hv
        obtain ⟨e, h, rfl⟩ := List.mem_map.mp hv
        exact strs_el S h
theorem collectS {a:Addr} {o:Obj} {ss:List Str} {es:Array (Int × Value)} {ep:Nat} {t:SetTable} {Q:List Value→Shared→Prop} (hh:A.handled = none) (ho:s.heap.get? a = some o) (S:SetO prog w o ss es ep t)
    (q:∀ xs g d tk,(∀ b o,s.heap.get? b = some o→g.get? b = some o)→s.heap.objs.size < g.objs.size→(xs.map strOf).Perm ss→(∀ v ∈ xs,∃ x tk,v = .str x tk)→Q xs { s with heap:=g,drawn:=d,toks:=tk }):wpAny (model prog w) A (collect (.ref a)) Q E s:=by
  have la : a < s.heap.objs.size := Heap.lt_size ho
  have hs : es.size ≤ sizeLine := fits_of_scanBound S.bd
  unfold collect
  refine wpAny_bind (wpAny_runValue (codeAny_builtin PySem.F.entry_proto_collect ?_))
  rw [Around.under_plainId PySem.F.plain_proto_collect _]
  show wpAny _ A.in1 (newList [] >>= fun l=>again (.builtin "list.__iadd__" ⟨[l,.ref a],[]⟩)) _ _ s
  refine wpAny_bind (wpAny_newObj_type (wpAny_pure ⟨plainId_quiet PySem.F.plain_list_iadd _,codeAny_builtin PySem.F.entry_list_iadd ?_⟩))
  rw [Around.under_plainId PySem.F.plain_list_iadd _]
  show wpAny _ A.in1 (Builtin.List.listExtendWith (.ref s.heap.objs.size) (.ref a) (.ref s.heap.objs.size)) _ _ _
  generalize hob:({ cls:=.type "list",data:=.seq ([]:List Value).toArray }:Obj) = ob
  have hL:(s.heap.push ob).get? s.heap.objs.size = some ob:=Heap.get?_push_size _ (by rw [← hob]; rfl)
  have ho1:(s.heap.push ob).get? a = some o:=Heap.get?_push_of_some _ ho
  have sz1:(s.heap.push ob).objs.size = s.heap.objs.size + 1:=Heap.size_push ..
  unfold Builtin.List.listExtendWith
  refine wpAny_bind (wpAny_typeOf (T:="set") ⟨o,ho1,S.ex.1⟩ ?_)
  have h1:Builtin.List.listSameRef (.ref s.heap.objs.size) (.ref a) = false:=by simp [Builtin.List.listSameRef,Nat.ne_of_gt la]
  have h2:(Value.type "set" == Value.type "list") = false:=by decide
  have h3:(Value.type "set" == Value.type "tuple") = false:=by decide
  simp only [h1,h2,h3,Bool.or_false,Bool.false_eq_true,if_false]
  refine wpAny_bind (iterS (s:={ s with heap:=s.heap.push ob }) ho1 S fun I g d xs fp St keep lI mI hfp pm hst len W st=>?_)
  refine wpAny_bind (wpAny_holding ?_)
  unfold Builtin.List.listLengthHint
  have ty:Shared.TypeIs { s with heap:=g,drawn:=d } (.ref a) "set":=⟨o,keep _ _ ho1,S.ex.1⟩
  refine wpAny_bind (wpAny_specialOf ty PySem.F.slot_set_len.lookup ?_)
  dsimp only
  rw [show splitId "set.__len__" = some ("set","__len__") by kernel_rfl]
  dsimp only
  refine wpAny_bind (wpAny_isInstance ty sub_set_self ?_)
  simp only [Bool.not_true, Bool.false_eq_true, if_false]
  refine wpAny_ite ?_
  rw [if_pos (by decide +kernel)]
  refine wpAny_bind (wpAny_typeOf ty ?_)
  refine wpAny_pure ?_
  refine wpAny_ite ?_
  rw [if_pos (by decide +kernel)]
  refine wpAny_bind (wpAny_rule (wpAny_bind ?_))
  have hLg:g.get? s.heap.objs.size = some ob:=keep _ _ hL
  rw [← hob] at hLg
  show wpAny _ A.in1 (updateSeq s.heap.objs.size (·.push .none) >>= fun _=>updateSeq s.heap.objs.size (·.pop)) _ _ _
  refine wpAny_bind (wpAny_updateSeq hLg rfl ?_)
  have u1:=Heap.get?_update_self (Obj.mapSeq (·.push Value.none)) hLg rfl
  refine wpAny_updateSeq u1 rfl ?_
  have u2:=Heap.get?_update_self (Obj.mapSeq (·.pop)) u1 rfl
  have oth:∀ b o,b ≠ s.heap.objs.size→g.get? b = some o→((g.update s.heap.objs.size (Obj.mapSeq (·.push Value.none))).update s.heap.objs.size (Obj.mapSeq (·.pop))).get? b = some o :=
    fun b o nb e=>(Heap.get?_update_other _ _ (Ne.symm nb)).trans ((Heap.get?_update_other _ _ (Ne.symm nb)).trans e)
  have nf : s.heap.objs.size ∉ fp := fun h => by
    rcases hfp _ h with z | ⟨z, _⟩
    · exact absurd z (Nat.ne_of_gt la)
    · have z':(s.heap.push ob).objs.size ≤ s.heap.objs.size:=z
      rw [sz1] at z'
      exact absurd z' (Nat.not_succ_le_self _)
  have W' := W A.in1 (by simp [hh])
  refine wpAny_pure ⟨plainId_quiet PySem.F.plain_extend_loop _,codeAny_extend_loopS W' hs _ nf _ es.size 0 _ _ _ rfl (Nat.zero_le _) (W'.frame 0 ({ s with heap:=g,drawn:=d }:Shared) _ s.toks st (Nat.le_refl _) fun b hb o e=>oth b o (fun h=>nf (h ▸ hb)) e) u2 (ItemsOf.nil _) fun s' acc c m hS' it=>?_⟩
  show wpAny _ A (load s.heap.objs.size >>= _) _ _ s'
  refine wpAny_bind (wpAny_load hS' (wpAny_pure ?_))
  have ex : acc.toList = xs := by
    obtain ⟨z, h⟩ := it
    apply List.ext_getElem?
    intro j
    rw [Array.getElem?_toList]
    cases e : acc[j]? with
    | some v => exact (h j v e).symm
    | none =>
      have : es.size ≤ j := by
        have := Array.getElem?_eq_none_iff.mp e
        omega
      exact (List.getElem?_eq_none (by omega)).symm
  rw [ex]
  obtain ⟨g', gn, dr, tk, os⟩ := s'
  obtain ⟨m1, m2, m3, m4, m5⟩ := m
  dsimp only at m1 m2 m3 m4 m5
  subst m2 m3 m4
  refine q xs g' _ tk (fun b o e=>m1 b o (fun h=>?_) (oth b o ?_ (keep _ _ (Heap.get?_push_of_some _ e)))) (Heap.lt_size hS') pm hst
  · rcases List.mem_cons.mp h with z | z
    · subst z
      exact absurd (Heap.lt_size e) (Nat.lt_irrefl _)
    · rw [List.mem_singleton] at z
      subst z
      have z' : (s.heap.push ob).objs.size ≤ b := lI
      rw [sz1] at z'
      exact absurd (Heap.lt_size e) (Nat.not_lt_of_le (Nat.le_of_succ_le z'))
  · exact Nat.ne_of_lt (Heap.lt_size e)
theorem rising_le:∀ {l:List Str} {p:Str},risingS p l = true→(∀ y ∈ l,¬ lS y p)∧l.Pairwise fun a b=>¬ lS b a
  | [],_,_=>⟨fun _ h=>absurd h (by simp),List.Pairwise.nil⟩
  | x :: r, p, h => by
    have h':(!ltCps x.cps.toList p.cps.toList && risingS x r) = true:=h
    rw [Bool.and_eq_true, Bool.not_eq_true', ltCps_eq] at h'
    obtain ⟨h1, h2⟩ := h'
    have n1 : ¬ lS x p := of_decide_eq_false h1
    obtain ⟨i1, i2⟩ := rising_le h2
    refine ⟨fun y hy => ?_, List.pairwise_cons.mpr ⟨i1, i2⟩⟩
    rcases List.mem_cons.mp hy with rfl | hy
    · exact n1
    · intro c
      exact i1 y hy (Decidable.byContradiction fun d=>n1 (Decidable.byContradiction fun n1'=>by
        by_cases e : lS p x
        · exact d (lS_tr c e)
        · have e2 := lS_tri n1' e
          subst e2
          exact d c))
theorem sorted_le {l:List Str} (h:sortedS l = true):l.Pairwise fun a b=>¬ lS b a:=by
  cases l with
  | nil => exact List.Pairwise.nil
  | cons x r =>
    obtain ⟨h1, h2⟩ := rising_le (p := x) (l := r) h
    exact List.pairwise_cons.mpr ⟨h1, h2⟩
theorem sortedS_of {a:Addr} {o:Obj} {ss:List Str} {es:Array (Int × Value)} {ep:Nat} {t:SetTable} {Q:Value→Shared→Prop} (hh:A.handled = none) (ho:s.heap.get? a = some o) (S:SetO prog w o ss es ep t) (h64:es.size < 64)
    (q:∀ (r:Addr) (us:List Value) (ys:List Str) (n:Nat) g d tk,s.heap.objs.size ≤ r→g.get? r = some (seqObj "list" us.toArray n)→(∀ b o,s.heap.get? b = some o→g.get? b = some o)→StrsAre us ys→ys.Perm ss→(ys.Pairwise fun a b=>¬ lS b a) →
      Q (.ref r) { s with heap:=g,drawn:=d,toks:=tk }):wpAny (model prog w) A (call (.builtin "sorted") [.ref a]) Q E s:=by
  refine Calls.call_function_entry kind_sorted plain_sorted entry_sorted (args_sorted1 _) ?_
  unfold Builtin.«sorted»
  refine wpAny_bind (m:=checkCount "sorted" 1 1 _) (wpAny_pure (wpAny_bind (collectS (by simp [hh]) ho S fun xs g d tk keep lg pm hst=>?_)))
  have hl : xs.length = es.size := by
    have := pm.length_eq
    rw [List.length_map] at this
    rw [this, S.size]
  refine wpAny_bind (wpAny_newList ?_ (by rw [hl]; exact fits_of_scanBound S.bd))
  have sa : StrsAre xs (xs.map strOf) := strsAre_map xs hst
  have hoL:(g.push (seqObj "list" xs.toArray 0)).get? g.objs.size = some (seqObj "list" xs.toArray 0):=Heap.get?_push_size _ rfl
  refine wpAny_bind (wpAny_holding (wpAny_call_entry slot_list_sort ⟨_,hoL,rfl⟩ entry_list_sort (list_sort_treeK strKind_oneLt hoL sa.keysOf (fun v1 v2 r e=>keyKind_strs (by rw [← e]; exact sa)) (by omega) fun st' a1 a2=>⟨_,rfl,wpAny_pure ⟨_,rfl,?_⟩⟩) (args_list_sort _)))
  obtain ⟨ys, b1, b2, b3⟩ := sorted_out_str sa a1 a2
  obtain ⟨n,hn⟩:=sortedHeap_at (out:=(arrOf st').map (·.2)) hoL
  refine q g.objs.size ((arrOf st').map (·.2)).toList ys n _ d tk (Nat.le_of_lt lg) (by rw [hn]) (fun b ob e=>?_) b1 (b2.trans pm) (sorted_le b3)
  have hb := Heap.lt_size (keep b ob e)
  show (sortedHeap _ _ _ _).get? b = some ob
  rw [sortedHeap_old (Nat.ne_of_lt hb) (by rw [Heap.size_push]; exact Nat.lt_succ_of_lt hb)]
  exact Heap.get?_push_of_some _ (keep b ob e)
end
section
variable {X : Cx}
theorem vals_str:∀ {us:List Value} {ys:List Str},StrsAre us ys→Vals (ys.map V.str) us
  | _, _, .nil => .nil
  | _, _, .cons x t r => .cons ⟨t, rfl⟩ (vals_str r)
theorem boot_sorted:bootBuiltins "sorted" = some (.builtin "sorted"):=by decide +kernel
theorem boot_set:bootBuiltins "set" = some (.type "set"):=by decide +kernel
def dSSet (K:PySem.W.Frag) (te:TE):TE:=fun σ H Q=>te σ H fun x H1=>match x with
  | .ref l=>∃ names:List Str,SqL K H1 l (names.map V.str)∧names.length ≤ 1000∧(srt names).length < 64∧∀ D,H1 D = none→Q (.ref D) (upd H1 D (.lst ((srt names).map V.str)))
  | _ => False
theorem e_sset {e:Expr} {te:TE} {p p' pos pos':Pos} (hg1:Gl X "sorted") (hm1:X.mg "sorted" = none) (hg2:Gl X "set") (hm2:X.mg "set" = none) (he:PE X e te) (hc:X.calm = true:=by rfl)
    (hs:starEach [.Call (.Name "set" p') [e] [] pos'] X.env = [(false,eval (.Call (.Name "set" p') [e] [] pos') X.env)]:=by rfl) (hs2:starEach [e] X.env = [(false,eval e X.env)]:=by rfl) :
    PE X (.Call (.Name "sorted" p) [.Call (.Name "set" p') [e] [] pos'] [] pos) (dSSet X.K te):=by
  intro pins s σ H Q I h
  refine wpAny_Call_Name_kw (ld_blt I hg1 hm1 boot_sorted ?_)
  refine PyProof.Rows.callWith_builtin1 ?_ hs rfl
  rw [hs]
  show wpAny _ _ (spliced ((false,eval (.Call (.Name "set" p') [e] [] pos') X.env) :: backTo pos (starEach [] X.env))) _ _ s
  refine Calls.spliced_cons ?_
  refine wpAny_Call_Name_kw (ld_blt I hg2 hm2 boot_set ?_)
  refine PyProof.Rows.callWith_type1 ?_ hs2 rfl
  rw [hs2]
  show wpAny _ _ (spliced ((false,eval e X.env) :: backTo pos' (starEach [] X.env))) _ _ s
  refine Calls.spliced_cons (thn (he pins s σ H _ I h) fun u s1 ⟨x,H1,I1,r1,q1⟩=>Calls.spliced_nil ?_)
  match x, q1 with
  | .ref l, ⟨names, hq, hn, h64, q⟩ =>
    cases (show u = Value.ref l from r1)
    obtain ⟨its,rv,⟨oL,nL,eL,cL,dL,xL⟩,hz⟩:=I1.list hq
    have sa : StrsAre its names := strs_of rv
    have hl:its.length = names.length:=by rw [← rv.length,List.length_map]
    have hh : X.A.handled = none := I1.ok.hd hc
    refine call_setS hh ⟨oL,eL,cL,nL,xL⟩ sa (by rw [hl]; exact Nat.lt_of_le_of_lt (Nat.succ_le_succ hn) (by decide)) fun g tk hS keep=>Calls.spliced_nil ?_
    obtain ⟨o, es, ep, t, ho, S⟩ := hS
    rw [hl] at S
    refine sortedS_of hh ho S (by rw [S.size]; exact Nat.lt_of_le_of_lt (ddn_srt names) h64) fun r us ys n g2 d tk2 lr hr keep2 sa2 pm pw=>?_
    have ey:ys = srt names:=inc_ext (pairwise_inc pw (pm.nodup_iff.mpr (ddn_nodup _ _))) (inc_srt _) fun x=>by rw [pm.mem_iff,ddn_mem,mem_srt]
    subst ey
    have fr:s1.heap.objs.size ≤ r:=Nat.le_trans (Nat.le_of_lt (Heap.lt_size ho)) lr
    have I2:=I1.laid (t':=tk2) (h':=g2) (a:=r) (o:=.lst ((srt names).map V.str)) (fun b u e=>keep2 _ _ (keep _ _ e)) fr ⟨by rw [List.length_map]; exact Nat.le_trans (Nat.le_of_lt h64) (by decide),us,n,vals_str sa2,hr⟩
    exact ⟨.ref r,_,⟨I2.ok,I2.os,I2.bare,I2.base,I2.loc,I2.cell,I2.free,I2.freeC,I2.pin,I2.hok,I2.len⟩,rfl,q r (I1.hok.fresh fr)⟩
end
end Lw
end
section
set_option Elab.async false
set_option linter.all false
set_option maxRecDepth 100000
set_option maxHeartbeats 4000000
namespace Lw
open PySem PySem.Spec PyProof.Rows L2
section
variable {prog:Program} {w:World} {A:Around} {R:Result→Shared→Prop} {s:Shared}
theorem turn_eqI (elt tg iter cd:Expr) (scope:Scope) (pos:Pos) (it acc:Value) (env:Env) :
    compTurn (.ListComp elt [⟨tg,iter,[cd],0⟩] scope pos) 0 it acc env = (standAt iter.pos >>= fun _=>pyNext it >>= fun r=>match r with
      | none => pure (.done .next)
      | some v=>letOwnedTupleGo tg it v >>= fun _=>assign tg env v >>= fun _=>isTrue cd env (eval cd env) >>= fun b=>if b = true then ((eval elt env >>= fun x=>call (.builtin "list.append") [acc,x] >>= fun _=>pure ()) >>= fun _=>again (.compLoop (.ListComp elt [⟨tg,iter,[cd],0⟩] scope pos) 0 it acc env)) else again (.compLoop (.ListComp elt [⟨tg,iter,[cd],0⟩] scope pos) 0 it acc env)):=by
  unfold compTurn
  simp only [List.getElem?_cons_zero,bne_self_eq_false,Bool.false_eq_true,if_false,List.forIn_cons,List.forIn_nil,if_true]
  congr 1
  funext _
  congr 1
  funext r
  cases r with
  | none => rfl
  | some v =>
    simp only [bind_assoc, pure_bind]
    rfl
theorem loop_compI {elt tg iter cd:Expr} {scope:Scope} {pos:Pos} {it acc:Value} {env:Env} (I:Nat→Shared→Prop)
    (turn:∀ n s,I n s→wpAny (model prog w) A (pyNext it) (fun r s1=>(r = none∧R (.ok .next) s1) ∨ ∃ v,r = some v∧wpAny (model prog w) A (letOwnedTupleGo tg it v) (fun _ s2=>wpAny (model prog w) A (assign tg env v) (fun _ s3 =>
      wpAny (model prog w) A (isTrue cd env (eval cd env)) (fun b s3=>Br b (wpAny (model prog w) A (eval elt env) (fun x s4=>wpAny (model prog w) A (call (.builtin "list.append") [acc,x]) (fun _ s5=>∃ m,m < n∧I m s5) (fun _ _=>False) s4) (fun _ _=>False) s3) (∃ m,m < n∧I m s3)) (fun _ _=>False) s3) (fun _ _=>False) s2) (fun _ _=>False) s1) (fun _ _=>False) s)
    (n:Nat) (h:I n s):codeAny (model prog w) A (.compLoop (.ListComp elt [⟨tg,iter,[cd],0⟩] scope pos) 0 it acc env) R s:=by
  refine codeAny_loop rfl I (fun n s hI => ?_) n h
  show wpAny _ _ ((compTurn (.ListComp elt [⟨tg,iter,[cd],0⟩] scope pos) 0 it acc env).onRaise (fun x=>do noteFrame x env; theTreesLotGoes x)) _ _ s
  refine wpAny_noted ?_
  rw [turn_eqI]
  refine wpAny_bind (wpAny_standAt (wpAny_bind (wpAny_mono (turn n s hI) (fun r s1 h1=>?_) fun _ _ z=>z.elim)))
  rcases h1 with ⟨rfl, h1⟩ | ⟨v, rfl, h1⟩
  · exact wpAny_pure h1
  · refine wpAny_bind (wpAny_mono h1 (fun _ s2 h2=>?_) fun _ _ z=>z.elim)
    refine wpAny_bind (wpAny_mono h2 (fun _ s3 h3=>?_) fun _ _ z=>z.elim)
    refine wpAny_bind (wpAny_mono h3 (fun b s3 h3=>?_) fun _ _ z=>z.elim)
    cases b with
    | true =>
      refine wpAny_bind (wpAny_bind (wpAny_mono (h3.1 rfl) (fun x s4 h4=>?_) fun _ _ z=>z.elim))
      refine wpAny_bind (wpAny_mono h4 (fun _ s5 h5=>?_) fun _ _ z=>z.elim)
      exact wpAny_pure (wpAny_pure ⟨rfl, h5⟩)
    | false => exact wpAny_pure ⟨rfl, h3.2 rfl⟩
end
@[irreducible] def CGoalI (J:It) (g:TG) (tc:TT) (te:TE) (k:Nat) (js:List Nat) (σ:L2.St) (H1:Hp) (Q:VK):Prop:=∀ D,H1 D = none→∃ W:Nat→Nat→Hp→Prop,(∃ m,W 0 m (upd H1 D (.lst [])))∧∀ i m H,W i m H →
  (J.stop i H∧Q (.ref D) H) ∨ (J.go i H∧∀ x H',J.yld i H x H'→g x (List.replicate k none ++ capσ js σ) H' fun σ2 H2=>σ2.drop k = capσ js σ∧tc σ2 H2 fun b H3=>Br b (te σ2 H3 fun v H4=>∃ xs,H4 D = some (.lst xs)∧xs.length < sizeLine∧∃ m',m' < m∧W (i + 1) m' (upd H4 D (.lst (xs ++ [v])))) (∃ m',m' < m∧W (i + 1) m' H3))
def dCompI (wi:TI) (g:TG) (tc:TT) (te:TE) (k:Nat) (js:List Nat):TE:=fun σ H Q=>wi σ H fun J H1=>CGoalI J g tc te k js σ H1 Q
section
variable {X : Cx}
theorem comp_coreI {elt iter tg cd:Expr} {scope:Scope} {pos:Pos} {wi:TI} {te:TE} {tc:TT} {g:TG} {N:List Str} {cl:List (Str × Addr)} (k:Nat) (js:List Nat) (hi:PI X tg iter wi)
    (hg:∀ C s H fp,PG (cxC X N s H (compEnvC scope cl C X.env) fp) tg g) (hd:∀ C s H fp,PT (cxC X N s H (compEnvC scope cl C X.env) fp) cd tc) (he:∀ C s H fp,PE (cxC X N s H (compEnvC scope cl C X.env) fp) elt te) (hcalm:X.calm = true)
    (hclos:closureFor scope X.env = pure cl) (hkind:scope.kind = .function) (hcell:∀ y ∈ scope.names,y.2 ≠ .cell) (hnames:∀ y ∈ scope.names,y.2 = .local→scope.names.lookup y.1 = some .local)
    (hcl:∀ y c,cl.lookup y = some c→X.env.cells.lookup y = some c) (hhas:∀ y,((relabel scope X.env).names.lookup y = some .cell ∨ (relabel scope X.env).names.lookup y = some .free)→∃ c,cl.lookup y = some c)
    (hlen:N.length = k + js.length) (hcap:∀ i j,js[i]? = some j→∃ y,N[k + i]? = some y∧Cap X (relabel scope X.env) cl j y)
    (hs:∀ x,foldedSetIterable iter X.env x = pure x) {pins:List (Addr × Obj)} {s:Shared} {σ:L2.St} {H:Hp} {Q:VK} (I:Inv X pins σ H s) (h:dCompI wi g tc te k js σ H Q) {cpos:Pos} {use:Option (Value→Sem Unit)} {Qv:Value→Shared→Prop}
    (fin:∀ (s6:Shared) (H5:Hp) (D C:Addr) (m:Str→Option Value),Inv X pins σ H5 s6→s6.heap.Ns C m→H5 C = none→X.s₀.heap.objs.size ≤ C→C ≠ X.env.locals→(∀ x c,X.env.cells.lookup x = some c→c ≠ C)→(∀ p ∈ X.pn ++ pins,p.1 ≠ C)→Q (.ref D) H5 →
      compPost (model X.prog X.w) X.A X.xe use Qv (.ref D) C (.ok .next) s6) :
    wpAny (model X.prog X.w) X.A (comprehension (.ListComp elt [⟨tg,iter,[cd],0⟩] scope pos) scope X.env cpos (newList []) false (eval iter X.env) use) Qv X.xe s:=by
  refine wpAny_comprehension_free (use:=use) rfl hs hclos hkind hnames (thn (hi pins s σ H _ I h) fun v s1 h1=>thn h1 fun itv s2 h2=>?_)
  obtain ⟨it, fp, tn, J, H2, rfl, I2, T, st2, f2, h2⟩ := h2
  refine wpAny_newObj_type ?_
  have hD:H2 s2.heap.objs.size = none:=I2.hok.fresh (Nat.le_refl _)
  unfold CGoalI at h2
  obtain ⟨W, ⟨m0, w0⟩, turn⟩ := h2 _ hD
  have I3:Inv X pins σ (upd H2 s2.heap.objs.size (.lst [])) { s2 with heap:=s2.heap.push { cls:=.type "list",dict:=none,data:=.seq ([]:List Value).toArray } } :=
    I2.laid (t':=s2.toks) (fun b u e=>Heap.get?_push_of_some _ e) (Nat.le_refl _) ⟨Nat.zero_le _,[],0,.nil,Heap.get?_push_size _ rfl⟩
  have hlt:∀ b ∈ fp,b < s2.heap.objs.size:=fun b hb=>by
    obtain ⟨o, e, _⟩ := T.obj _ _ st2 b hb
    exact Heap.lt_size e
  have f3:∀ b ∈ fp,FpOk X pins (upd H2 s2.heap.objs.size (.lst [])) b:=fun b hb=>⟨by rw [upd_ne (Nat.ne_of_lt (hlt b hb))]; exact (f2 b hb).1,(f2 b hb).2⟩
  have st3:tn 0 (s2.heap.push { cls:=.type "list",dict:=none,data:=.seq ([]:List Value).toArray }):=T.keep _ _ _ st2 fun b hb o e=>Heap.get?_push_of_some _ e
  have hlt3:∀ b ∈ fp,b < (s2.heap.push { cls:=.type "list",dict:=none,data:=.seq ([]:List Value).toArray }).objs.size:=fun b hb=>Nat.lt_of_lt_of_le (hlt b hb) (by rw [Heap.size_push]; exact Nat.le_succ _)
  generalize hs3:({ s2 with heap:=s2.heap.push { cls:=.type "list",dict:=none,data:=.seq ([]:List Value).toArray } }:Shared) = s3 at I3
  have eh:s3.heap = s2.heap.push { cls:=.type "list",dict:=none,data:=.seq ([]:List Value).toArray }:=by rw [← hs3]
  rw [← eh] at st3 hlt3
  generalize hDD : s2.heap.objs.size = D at *
  generalize hH3 : upd H2 D (.lst []) = H3 at *
  clear hs3 eh
  refine wpAny_newFunctionEnv (s:=s3) hcell (by intro y hy; simp at hy) (fun h4 n4 sb4=>?_) hkind
  have Ok:=comp_ok (N:=N) (C:=s3.heap.objs.size) I3 hkind (Nat.le_refl _) hcl hhas fun b hb=>⟨f3 b hb,hlt3 b hb⟩
  show codeAny _ _ (.compStart (.ListComp elt [⟨tg,iter,[cd],0⟩] scope pos) 0 (.ref it) (.ref D) (compEnvC scope cl s3.heap.objs.size X.env)) _ _
  generalize hC : s3.heap.objs.size = C at *
  have old:∀ b o,s3.heap.get? b = some o→h4.get? b = some o:=fun b o e=>sb4.extBut b o (by rw [← hC]; exact Nat.ne_of_lt (Heap.lt_size e)) (Heap.get?_push_of_some _ e)
  have fresh:H3 C = none:=I3.hok.fresh (by rw [hC]; exact Nat.le_refl _)
  have hcapl:∀ {i:Nat} {x:Str} {v:V},N[i]? = some x→(List.replicate k none ++ capσ js σ)[i]? = some (some v)→∃ u,L2.RelV v u∧Look (compEnvC scope cl C X.env) h4 (fun _=>none) x u:=by
    intro i x v e1 e2
    by_cases hik : i < k
    · rw [List.getElem?_append_left (by simpa using hik)] at e2
      rw [List.getElem?_replicate] at e2
      simp [hik] at e2
    · rw [List.getElem?_append_right (by simpa using Nat.le_of_not_lt hik),List.length_replicate] at e2
      unfold capσ at e2
      rw [List.getElem?_map] at e2
      cases ej : js[i - k]? with
      | none =>
        rw [ej] at e2
        cases e2
      | some j =>
        rw [ej] at e2
        have e2:(σ[j]?).join = some v:=Option.some.inj e2
        obtain ⟨y, hy, cp⟩ := hcap _ _ ej
        rw [show k + (i - k) = i by omega, e1] at hy
        cases hy
        obtain ⟨m, _, hl⟩ := I3.loc
        have e3 : σ[j]? = some (some v) := by
          cases q : σ[j]? with
          | none =>
            rw [q] at e2
            cases e2
          | some o =>
            rw [q] at e2
            have : o = some v := e2
            rw [this]
        obtain ⟨u,ru,lk⟩:=hl j x v cp.nm e3 (.inr (.inl cp.ko))
        refine ⟨u, ru, ?_⟩
        rcases lk with ⟨z, _⟩ | ⟨_, c, hc, z⟩
        · rw [cp.ko] at z
          cases z
        · refine .inr ⟨.inl cp.ki,c,by rw [← hc]; exact cp.cl,?_⟩
          obtain ⟨o, e, d⟩ := z
          exact ⟨o, old _ _ e, d⟩
  have I4:Inv (cxC X N s3 H3 (compEnvC scope cl C X.env) fp) [] (List.replicate k none ++ capσ js σ) H3 { s3 with heap:=h4,toks:=s3.toks + ([]:List (Str × Value)).length }:=by
    refine ⟨Ok,rfl,I3.bare,Un.kept old,⟨_,n4,fun i x v e1 e2 e3=>?_⟩,fun x c e=>?_,fresh,fun x c e=>I3.freeC x c (hcl x c e),fun p hp=>absurd hp (by simp),I3.hok.kept old,?_⟩
    · obtain ⟨u, ru, lk⟩ := hcapl e1 e2
      refine ⟨u, ru, ?_⟩
      rcases lk with ⟨z, q⟩ | q
      · cases q
      · exact .inr q
    · obtain ⟨v, o, e1, d⟩ := I3.cell x c (hcl x c e)
      exact ⟨v, o, old _ _ e1, d⟩
    · simp [capσ, hlen]
  have fp4:∀ {H':Hp},(∀ b ∈ fp,H' b = none)→∀ b ∈ fp,FpOk (cxC X N s3 H3 (compEnvC scope cl C X.env) fp) [] H' b:=fun hn b hb =>
    ⟨hn b hb,(Ok.exf b hb).1,Ok.exfs b hb,.inl hb,fun x c e=>(Ok.exf b hb).2 x c e,fun p hp=>absurd hp (by simp)⟩
  have st4:tn 0 h4:=T.keep _ _ _ st3 fun b hb o e=>old b o e
  have run:∀ s4:Shared,s4 = { s3 with heap:=h4,toks:=s3.toks + ([]:List (Str × Value)).length } →
      codeAny (model X.prog X.w) X.A (.compLoop (.ListComp elt [⟨tg,iter,[cd],0⟩] scope pos) 0 (.ref it) (.ref D) (compEnvC scope cl C X.env)) (compPost (model X.prog X.w) X.A X.xe use Qv (.ref D) C) s4:=by
    rintro s4 rfl
    refine loop_compI (fun n s'=>∃ i H' σ',Inv (cxC X N s3 H3 (compEnvC scope cl C X.env) fp) [] σ' H' s'∧(∀ j:Nat,∀ v,(List.replicate k none ++ capσ js σ)[j]? = some (some v)→σ'[j]? = some (some v))∧tn i s'.heap∧(∀ b ∈ fp,H' b = none)∧W i n H') ?_ m0
      ⟨0,H3,_,I4,fun _ _ z=>z,st4,fun b hb=>(f3 b hb).1,w0⟩
    rintro n s5 ⟨i, H5, σ5, I5, cap5, st5, fr5, w5⟩
    have I5':=I5.weak (σ':=List.replicate k none ++ capσ js σ) (by rw [I5.len]; simp [capσ,hlen]) cap5
    rcases turn i n H5 w5 with ⟨stop, q⟩ | ⟨go, step⟩
    · refine thn (T.done (cxC X N s3 H3 (compEnvC scope cl C X.env) fp) rfl rfl rfl hcalm i [] s5 σ5 H5 _ I5 (fp4 fr5) st5 stop) fun r s6 ⟨hr,I6⟩=>.inl ⟨hr,?_⟩
      obtain ⟨m6, n6, _⟩ := I6.loc
      have hCf : H5 C = none := I6.free
      have u6 := I6.base
      have uC:Un (frs X.stack) fp H3 H5 s3.heap s6.heap:=⟨u6.keep,u6.slot,u6.free,u6.there,u6.tups,u6.frzs,u6.tbls⟩
      have I7:Inv X pins σ H5 s6:=I3.call' (s':=s6) I6.os uC I6.hok I6.bare fun b hb=>⟨(f3 b hb).2.2.2.1,(f3 b hb).2.1,(f3 b hb).2.2.2.2.1,(f3 b hb).2.2.2.2.2⟩
      have lt3:∀ b o,s3.heap.get? b = some o→b ≠ C:=fun b o e=>by rw [← hC]; exact Nat.ne_of_lt (Heap.lt_size e)
      refine fin s6 H5 D C m6 I7 n6 hCf (by rw [← hC]; exact I3.sz) (by rw [← hC]; exact Nat.ne_of_gt I3.lt) (fun x c e=>?_) (fun p hp=>lt3 p.1 p.2 (I3.pin p hp).1) q
      obtain ⟨v, o, e1, _⟩ := I3.cell x c e
      exact lt3 c o e1
    · refine thn (T.item (cxC X N s3 H3 (compEnvC scope cl C X.env) fp) rfl rfl rfl hcalm i [] s5 _ H5 _ I5' (fp4 fr5) st5 go) fun r s6 ⟨u,hr,h6⟩=>.inr ⟨u,hr,?_⟩
      refine thn h6 fun _ s7 ⟨x,H7,I7,r7,y7,st7,fr7⟩=>?_
      have I7' := I7.pinned (fp4 fr7) (T.obj _ _ st7)
      refine thn (hg C s3 H3 fp _ s7 _ H7 x u _ I7' r7 (step x H7 y7)) fun _ s8 ⟨σ8,H8,I8,d8,q8⟩=>?_
      have capk:∀ (j:Nat) v,(List.replicate k none ++ capσ js σ)[j]? = some (some v)→σ8[j]? = some (some v):=fun j v e=>by
        by_cases hjk : j < k
        · rw [List.getElem?_append_left (by simpa using hjk),List.getElem?_replicate] at e
          simp [hjk] at e
        · rw [List.getElem?_append_right (by simpa using Nat.le_of_not_lt hjk),List.length_replicate,← d8,List.getElem?_drop] at e
          rw [show k + (j - k) = j by omega] at e
          exact e
      refine thn (hd C s3 H3 fp _ s8 σ8 H8 _ I8 q8) fun b s8' ⟨H8',I8',q8'⟩=>⟨fun hb=>?_,fun hb=>?_⟩
      · refine thn (he C s3 H3 fp _ s8' σ8 H8' _ I8' (q8'.1 hb)) fun vv s9 ⟨vx,H9,I9,r9,xs,hx9,hz9,m',hm',w9⟩=>?_
        obtain ⟨z9,its,n9,rl,e9⟩:=(show ObjOk X.prog X.w H9 s9.heap D (.lst xs) from I9.hok D _ hx9)
        have app:=mt_append (X:=cxC X N s3 H3 (compEnvC scope cl C X.env) fp) _ s9 σ8 H9 (.ref D) [vx] (.ref D) [vv] (fun _ H'=>H' = upd H9 D (.lst (xs ++ [vx]))) I9 rfl (.cons r9 .nil) ⟨D,xs,vx,rfl,rfl,hx9,hz9,rfl⟩
        refine thn app fun _ s10 ⟨_, H10, I10, _, e10⟩ => ?_
        subst e10
        refine ⟨m',hm',i + 1,_,σ8,I10.unpinned (pins:=[]),capk,T.keep _ _ _ st7 fun b hb o e=>(I10.pin (b,o) (List.mem_append_right _ (List.mem_append_right _ (mem_pinsAt hb e)))).1,fun b hb=>?_,w9⟩
        obtain ⟨o, e, d⟩ := T.obj _ _ st7 b hb
        exact (I10.pin (b,o) (List.mem_append_right _ (List.mem_append_right _ (mem_pinsAt hb e)))).2.1
      · obtain ⟨m', hm', w9⟩ := q8'.2 hb
        refine ⟨m',hm',i + 1,_,σ8,I8'.unpinned (pins:=[]),capk,T.keep _ _ _ st7 fun b hb o e=>(I8'.pin (b,o) (List.mem_append_right _ (List.mem_append_right _ (mem_pinsAt hb e)))).1,fun b hb=>?_,w9⟩
        obtain ⟨o, e, d⟩ := T.obj _ _ st7 b hb
        exact (I8'.pin (b,o) (List.mem_append_right _ (List.mem_append_right _ (mem_pinsAt hb e)))).2.1
  exact codeAny_compStart_list (run _ rfl) (T.self X.A 0 _ _ _ st4 (run _ rfl))
theorem e_compI {elt iter tg cd:Expr} {scope:Scope} {pos:Pos} {wi:TI} {te:TE} {tc:TT} {g:TG} {N:List Str} {cl:List (Str × Addr)} (k:Nat) (js:List Nat) (hi:PI X tg iter wi)
    (hg:∀ C s H fp,PG (cxC X N s H (compEnvC scope cl C X.env) fp) tg g) (hd:∀ C s H fp,PT (cxC X N s H (compEnvC scope cl C X.env) fp) cd tc) (he:∀ C s H fp,PE (cxC X N s H (compEnvC scope cl C X.env) fp) elt te) (hcalm:X.calm = true)
    (hclos:closureFor scope X.env = pure cl) (hkind:scope.kind = .function) (hcell:∀ y ∈ scope.names,y.2 ≠ .cell) (hnames:∀ y ∈ scope.names,y.2 = .local→scope.names.lookup y.1 = some .local)
    (hcl:∀ y c,cl.lookup y = some c→X.env.cells.lookup y = some c) (hhas:∀ y,((relabel scope X.env).names.lookup y = some .cell ∨ (relabel scope X.env).names.lookup y = some .free)→∃ c,cl.lookup y = some c)
    (hlen:N.length = k + js.length) (hcap:∀ i j,js[i]? = some j→∃ y,N[k + i]? = some y∧Cap X (relabel scope X.env) cl j y)
    (hs:∀ x,foldedSetIterable iter X.env x = pure x:=by intro _; rfl):PE X (.ListComp elt [⟨tg,iter,[cd],0⟩] scope pos) (dCompI wi g tc te k js):=by
  intro pins s σ H Q I h
  rw [eval_ListComp]
  refine comp_coreI k js hi hg hd he hcalm hclos hkind hcell hnames hcl hhas hlen hcap hs I h fun s6 H5 D C m I6 n6 z1 z2 z3 z4 z5 q=>⟨m,n6,fun h7 sb7=>⟨.ref D,H5,?_,rfl,q⟩⟩
  exact I6.turned (t':=s6.toks) (fun b o hb e=>(sb7.2 b hb).trans e) z1 z3.symm.symm (.inr z2) z4 z5
theorem ps_comp0I {elt iter tg cd:Expr} {scope:Scope} {pos py spos:Pos} {i:Nat} {y:Str} {wi:TI} {te:TE} {tc:TT} {g:TG} {N:List Str} {cl:List (Str × Addr)} (k:Nat) (js:List Nat) (hi:PI X tg iter wi)
    (hg:∀ C s H fp,PG (cxC X N s H (compEnvC scope cl C X.env) fp) tg g) (hd:∀ C s H fp,PT (cxC X N s H (compEnvC scope cl C X.env) fp) cd tc) (he:∀ C s H fp,PE (cxC X N s H (compEnvC scope cl C X.env) fp) elt te) (hcalm:X.calm = true)
    (hclos:closureFor scope X.env = pure cl) (hkind:scope.kind = .function) (hcell:∀ y ∈ scope.names,y.2 ≠ .cell) (hnames:∀ y ∈ scope.names,y.2 = .local→scope.names.lookup y.1 = some .local)
    (hcl:∀ y c,cl.lookup y = some c→X.env.cells.lookup y = some c) (hhas:∀ y,((relabel scope X.env).names.lookup y = some .cell ∨ (relabel scope X.env).names.lookup y = some .free)→∃ c,cl.lookup y = some c)
    (hlen:N.length = k + js.length) (hcap:∀ i j,js[i]? = some j→∃ y,N[k + i]? = some y∧Cap X (relabel scope X.env) cl j y)
    (hs:∀ x,foldedSetIterable iter X.env x = pure x) (hN:X.N.Nodup) (hi':X.N[i]? = some y) (hy:X.env.scope.names.lookup y = some .local) (hsw:swapsWith (.ListComp elt [⟨tg,iter,[cd],0⟩] scope pos) (some (.Name y py)) spos.line X.env = pure true) :
    PS X (.Assign [.Name y py] (.ListComp elt [⟨tg,iter,[cd],0⟩] scope pos) spos) (tAsg (dCompI wi g tc te k js) (gName i)):=by
  intro pins s σ H D I h
  rw [exec_Assign_Name_used _ _ _ _ hsw]
  refine wpAny_bind (wpAny_standAt (wpAny_bind ?_))
  show wpAny _ X.A (do let _ ← comprehension (.ListComp elt [⟨tg,iter,[cd],0⟩] scope pos) scope X.env _ (newList []) false (eval iter X.env) (some (assign (.Name y py) X.env))) _ _ s
  refine wpAny_bind (wpAny_mono (comp_coreI k js hi hg hd he hcalm hclos hkind hcell hnames hcl hhas hlen hcap hs (use:=some (assign (.Name y py) X.env)) (Qv:=fun _ s'=>SP X pins D .next s') I h fun s6 H5 D' C m I6 n6 z1 z2 z3 z4 z5 q=>?_)
    (fun _ s' hq=>wpAny_pure (wpAny_pure hq)) fun _ _ e=>e)
  show wpAny _ X.A (assign (.Name y py) X.env (.ref D')) _ _ _
  refine wpAny_assign_Name (store_ok2 I6 hN hi' (.inl hy) (v:=.ref D') rfl (fun s8 I8 ⟨a,sb,ha⟩=>?_) (.inr hy))
  have na : C ≠ a := by
    rcases ha with rfl | ha
    · exact z3
    · exact Ne.symm (z4 _ _ ha)
  exact ⟨m,n6.sameBut sb na,fun h9 sb9=>⟨_,H5,I8.turned (t':=s8.toks) (fun b o hb e=>(sb9.2 b hb).trans e) z1 z3 (.inr z2) z4 z5,q⟩⟩
theorem e_compIN {elt iter tg cd:Expr} {scope:Scope} {pos:Pos} {wi:TI} {te:TE} {tc:TT} {g:TG} {cl:List (Str × Addr)} (own ys:List Str) (js:List Nat) (hclos:closureFor scope X.env = pure cl) (hi:PI X tg iter wi)
    (hg:∀ C s H fp,PG (cxC X (own ++ ys) s H (compEnvC scope cl C X.env) fp) tg g) (hd:∀ C s H fp,PT (cxC X (own ++ ys) s H (compEnvC scope cl C X.env) fp) cd tc) (he:∀ C s H fp,PE (cxC X (own ++ ys) s H (compEnvC scope cl C X.env) fp) elt te) (hcalm:X.calm = true) (hkind:scope.kind = .function)
    (hcell:(scope.names.all fun y=>y.2 != .cell) = true) (hnames:(scope.names.all fun y=>y.2 != .local || scope.names.lookup y.1 == some .local) = true) (hfr:(scope.names.all fun y=>y.2 != .free || (cl.map (·.1)).contains y.1) = true)
    (hcl:CellL X.env.cells cl) (hcap:CapL X (relabel scope X.env) cl ys js) (hs:∀ x,foldedSetIterable iter X.env x = pure x:=by intro _; rfl) :
    PE X (.ListComp elt [⟨tg,iter,[cd],0⟩] scope pos) (dCompI wi g tc te own.length js):=by
  rw [List.all_eq_true] at hcell hnames hfr
  have hc:∀ y ∈ scope.names,y.2 ≠ .cell:=fun y hy z=>by
    have := hcell y hy
    rw [z] at this
    cases this
  refine e_compI own.length js hi hg hd he hcalm hclos hkind hc (fun y hy z=>?_) hcl.at (fun y h=>?_) (by rw [List.length_append,hcap.len]) (fun i j e=>?_) hs
  · have := hnames y hy
    rw [z] at this
    simpa using this
  · obtain ⟨z,hz,rfl,hk⟩:∃ z ∈ scope.names,z.1 = y∧(z.2 = .free ∨ z.2 = .cell):=by
      rcases h with h | h
      · exact relabel_has h (.inl rfl)
      · exact relabel_has h (.inr rfl)
    rcases hk with hk | hk
    · have := hfr z hz
      rw [hk] at this
      exact lookup_has (by simpa using this)
    · exact absurd hk (hc z hz)
  · obtain ⟨y, h1, h2⟩ := hcap.at i j e
    exact ⟨y,by rw [List.getElem?_append_right (Nat.le_add_right _ _),Nat.add_sub_cancel_left]; exact h1,h2⟩
theorem ps_compIN {elt iter tg cd:Expr} {scope:Scope} {pos py spos:Pos} {i:Nat} {y:Str} {wi:TI} {te:TE} {tc:TT} {g:TG} {cl:List (Str × Addr)} (own ys:List Str) (js:List Nat) (hclos:closureFor scope X.env = pure cl) (hi:PI X tg iter wi)
    (hg:∀ C s H fp,PG (cxC X (own ++ ys) s H (compEnvC scope cl C X.env) fp) tg g) (hd:∀ C s H fp,PT (cxC X (own ++ ys) s H (compEnvC scope cl C X.env) fp) cd tc) (he:∀ C s H fp,PE (cxC X (own ++ ys) s H (compEnvC scope cl C X.env) fp) elt te) (hcalm:X.calm = true) (hkind:scope.kind = .function)
    (hcell:(scope.names.all fun y=>y.2 != .cell) = true) (hnames:(scope.names.all fun y=>y.2 != .local || scope.names.lookup y.1 == some .local) = true) (hfr:(scope.names.all fun y=>y.2 != .free || (cl.map (·.1)).contains y.1) = true)
    (hcl:CellL X.env.cells cl) (hcap:CapL X (relabel scope X.env) cl ys js) (hN:X.N.Nodup) (hi':X.N[i]? = some y) (hy:X.env.scope.names.lookup y = some .local) (hs:∀ x,foldedSetIterable iter X.env x = pure x:=by intro _; rfl) (hsw:swapsWith (.ListComp elt [⟨tg,iter,[cd],0⟩] scope pos) (some (.Name y py)) spos.line X.env = pure true:=by rfl) :
    PS X (.Assign [.Name y py] (.ListComp elt [⟨tg,iter,[cd],0⟩] scope pos) spos) (tAsg (dCompI wi g tc te own.length js) (gName i)):=by
  rw [List.all_eq_true] at hcell hnames hfr
  have hc:∀ y ∈ scope.names,y.2 ≠ .cell:=fun y hy z=>by
    have := hcell y hy
    rw [z] at this
    cases this
  refine ps_comp0I own.length js hi hg hd he hcalm hclos hkind hc (fun y hy z=>?_) hcl.at (fun y h=>?_) (by rw [List.length_append,hcap.len]) (fun i j e=>?_) hs hN hi' hy hsw
  · have := hnames y hy
    rw [z] at this
    simpa using this
  · obtain ⟨z,hz,rfl,hk⟩:∃ z ∈ scope.names,z.1 = y∧(z.2 = .free ∨ z.2 = .cell):=by
      rcases h with h | h
      · exact relabel_has h (.inl rfl)
      · exact relabel_has h (.inr rfl)
    rcases hk with hk | hk
    · have := hfr z hz
      rw [hk] at this
      exact lookup_has (by simpa using this)
    · exact absurd hk (hc z hz)
  · obtain ⟨y, h1, h2⟩ := hcap.at i j e
    exact ⟨y,by rw [List.getElem?_append_right (Nat.le_add_right _ _),Nat.add_sub_cancel_left]; exact h1,h2⟩
end
end Lw
end
section
set_option Elab.async false
set_option linter.all false
set_option maxRecDepth 100000
set_option maxHeartbeats 4000000
namespace Lw
open PySem PySem.Spec PyProof.Rows L2
inductive All2 {α β:Type} (R:α→β→Prop):List α→List β→Prop where
  | nil : All2 R [] []
  | cons {a:α} {b:β} {l:List α} {m:List β}:R a b→All2 R l m→All2 R (a :: l) (b :: m)
theorem All2.len {α β:Type} {R:α→β→Prop}:∀ {l:List α} {m:List β},All2 R l m→l.length = m.length
  | _, _, .nil => rfl
  | _,_,.cons _ r=>by rw [List.length_cons,List.length_cons,r.len]
theorem All2.imp {α β:Type} {R S:α→β→Prop} (h:∀ a b,R a b→S a b):∀ {l:List α} {m:List β},All2 R l m→All2 S l m
  | _, _, .nil => .nil
  | _, _, .cons x r => .cons (h _ _ x) (r.imp h)
theorem All2.snoc {α β:Type} {R:α→β→Prop} {a:α} {b:β} (x:R a b):∀ {l:List α} {m:List β},All2 R l m→All2 R (l ++ [a]) (m ++ [b])
  | _, _, .nil => .cons x .nil
  | _, _, .cons y r => .cons y (r.snoc x)
theorem All2.get {α β:Type} {R:α→β→Prop}:∀ {l:List α} {m:List β},All2 R l m→∀ {i:Nat} {a:α},l[i]? = some a→∃ b,m[i]? = some b∧R a b
  | _, _, .nil, i, a, h => by simp at h
  | _, _, .cons x r, 0, a, h => by
    simp at h
    subst h
    exact ⟨_, rfl, x⟩
  | _, _, .cons x r, i + 1, a, h => by
    simp only [List.getElem?_cons_succ] at h ⊢
    exact r.get h
def Kt (H H':Hp):Prop:=∀ p xs,H p = some (.tup xs)→H' p = some (.tup xs)
theorem Kt.trans {H H1 H2:Hp} (a:Kt H H1) (b:Kt H1 H2):Kt H H2:=fun p xs h=>b p xs (a p xs h)
theorem kt_of {H H':Hp} (s:Same H H'):Kt H H':=fun p xs h=>s p _ h
theorem kt_upd {H:Hp} {D:Addr} {zs:List V} {o:HO} (h:H D = some (.lst zs)):Kt H (upd H D o):=fun p xs e=>by
  have ne : p ≠ D := fun z => by
    subst z
    rw [h] at e
    cases e
  rw [upd_ne ne]
  exact e
theorem same_app' {H0 H:Hp} {D:Addr} {o:HO} (s:Same H0 H) (h:H0 D = none):Same H0 (upd H D o):=fun b u e=>by
  rw [upd_ne (ne_of_none e h)]
  exact s b u e
theorem comp_abs {β:Type} {K:PySem.W.Frag} {a:Addr} {xs:List V} {ms:List β} {g:TG} {te:TE} {k:Nat} {js:List Nat} {σ:L2.St} {H1:Hp} {Q:VK} (M:Hp→V→β→Prop) (upM:∀ v m H H',Kt H H'→M H v m→M H' v m) (R:Hp→β→V→Prop) (up:∀ m y H H',Kt H H'→R H m y→R H' m y)
    (hz:xs.length ≤ 1000) (hx:SqL K H1 a xs) (hm:All2 (M H1) xs ms)
    (hs:∀ v m H2,M H2 v m→m ∈ ms→Same H1 H2→∀ P:VK,(∀ y H3,Same H2 H3→R H3 m y→P y H3)→g v (List.replicate k none ++ capσ js σ) H2 fun σ2 H3=>σ2.drop k = capσ js σ∧te σ2 H3 P)
    (hq:∀ D H' ys,Same H1 H'→H1 D = none→H' D = some (.lst ys)→All2 (R H') ms ys→Q (.ref D) H'):CGoal (Itl K a) g te k js σ H1 Q:=by
  unfold CGoal
  intro D hD
  have hl := hm.len
  refine ⟨fun i m H=>m = xs.length - i∧i ≤ xs.length∧Same H1 H∧∃ ys,H D = some (.lst ys)∧All2 (R H) (ms.take i) ys,⟨xs.length,by simp,Nat.zero_le _,same_upd hD,[],upd_same,.nil⟩,?_⟩
  rintro i m H ⟨rfl, hi, sm, ys, hH, ar⟩
  have sq := sm.seq hx
  by_cases hlt : i < xs.length
  · have e : xs[i]? = some xs[i] := by simp [hlt]
    refine .inr ⟨⟨xs, _, sq, e⟩, fun x H' y => ?_⟩
    obtain ⟨e1, e2⟩ := y
    subst e1
    have hv := e2 xs sq
    obtain ⟨m, hmi, hM⟩ := hm.get hv
    refine hs x m _ (upM _ _ _ _ (kt_of sm) hM) (List.mem_of_getElem? hmi) sm _ fun y H3 s3 r3=>⟨ys,s3 _ _ hH,?_,xs.length - (i + 1),by omega,rfl,hlt,same_app' (sm.trans s3) hD,ys ++ [y],upd_same,?_⟩
    · rw [← ar.len, List.length_take]
      exact Nat.lt_of_le_of_lt (Nat.min_le_left _ _) (Nat.lt_of_lt_of_le hlt (Nat.le_trans hz (by decide)))
    · have kt:Kt H3 (upd H3 D (.lst (ys ++ [y]))):=kt_upd (s3 _ _ hH)
      rw [List.take_add_one, hmi]
      exact (ar.imp fun v y r=>up v y _ _ ((kt_of s3).trans kt) r).snoc (up _ _ _ _ kt r3)
  · have e : i = xs.length := by omega
    subst e
    rw [hl, List.take_length] at ar
    exact .inl ⟨⟨xs,sq,Nat.le_refl _⟩,hq D _ ys sm hD hH ar⟩
theorem comp_absI {β:Type} {K:PySem.W.Frag} {a:Addr} {xs:List V} {ms:List β} {g:TG} {tc:TT} {te:TE} {k:Nat} {js:List Nat} {σ:L2.St} {H1:Hp} {Q:VK} (M:Hp→V→β→Prop) (upM:∀ v m H H',Kt H H'→M H v m→M H' v m) (R:Hp→β→V→Prop) (up:∀ m y H H',Kt H H'→R H m y→R H' m y)
    (c:β→Bool) (hz:xs.length ≤ 1000) (hx:SqL K H1 a xs) (hm:All2 (M H1) xs ms)
    (hs:∀ v m H2,M H2 v m→m ∈ ms→Same H1 H2→∀ (P:VK) (P':Hp→Prop),(c m = true→∀ y H3,Same H2 H3→R H3 m y→P y H3)→(c m = false→∀ H3,Same H2 H3→P' H3)→g v (List.replicate k none ++ capσ js σ) H2 fun σ2 H3=>σ2.drop k = capσ js σ∧tc σ2 H3 fun b H4=>Br b (te σ2 H4 P) (P' H4))
    (hq:∀ D H' ys,Same H1 H'→H1 D = none→H' D = some (.lst ys)→All2 (R H') (ms.filter c) ys→Q (.ref D) H'):CGoalI (Itl K a) g tc te k js σ H1 Q:=by
  unfold CGoalI
  intro D hD
  have hl := hm.len
  refine ⟨fun i m H=>m = xs.length - i∧i ≤ xs.length∧Same H1 H∧∃ ys,H D = some (.lst ys)∧All2 (R H) ((ms.take i).filter c) ys,⟨xs.length,by simp,Nat.zero_le _,same_upd hD,[],upd_same,.nil⟩,?_⟩
  rintro i m H ⟨rfl, hi, sm, ys, hH, ar⟩
  have sq := sm.seq hx
  by_cases hlt : i < xs.length
  · have e : xs[i]? = some xs[i] := by simp [hlt]
    refine .inr ⟨⟨xs, _, sq, e⟩, fun x H' y => ?_⟩
    obtain ⟨e1, e2⟩ := y
    subst e1
    have hv := e2 xs sq
    obtain ⟨m, hmi, hM⟩ := hm.get hv
    have yl : ys.length < sizeLine := by
      rw [← ar.len]
      refine Nat.lt_of_le_of_lt (List.length_filter_le _ _) ?_
      rw [List.length_take]
      exact Nat.lt_of_le_of_lt (Nat.min_le_left _ _) (Nat.lt_of_lt_of_le hlt (Nat.le_trans hz (by decide)))
    refine hs x m _ (upM _ _ _ _ (kt_of sm) hM) (List.mem_of_getElem? hmi) sm _ _ (fun hc y H3 s3 r3=>⟨ys,s3 _ _ hH,yl,xs.length - (i + 1),by omega,rfl,hlt,same_app' (sm.trans s3) hD,ys ++ [y],upd_same,?_⟩) fun hc H3 s3=>⟨xs.length - (i + 1),by omega,rfl,hlt,sm.trans s3,ys,s3 _ _ hH,?_⟩
    · have kt:Kt H3 (upd H3 D (.lst (ys ++ [y]))):=kt_upd (s3 _ _ hH)
      rw [List.take_add_one, hmi, List.filter_append]
      have ef:(Option.toList (some m)).filter c = [m]:=by simp [hc]
      rw [ef]
      exact (ar.imp fun v y r=>up v y _ _ ((kt_of s3).trans kt) r).snoc (up _ _ _ _ kt r3)
    · rw [List.take_add_one, hmi, List.filter_append]
      have ef:(Option.toList (some m)).filter c = []:=by simp [hc]
      rw [ef, List.append_nil]
      exact ar.imp fun v y r => up v y _ _ (kt_of s3) r
  · have e : i = xs.length := by omega
    subst e
    rw [hl, List.take_length] at ar
    exact .inl ⟨⟨xs,sq,Nat.le_refl _⟩,hq D _ ys sm hD hH ar⟩
structure Gm where
  d : Int
  a : Str
  b : Str
  h : Int
  s : Int
def GmAt (H:Hp) (v:V) (g:Gm):Prop:=∃ p,v = .ref p∧H p = some (.tup [.int g.d,.str g.a,.str g.b,.int g.h,.int g.s])
theorem gm_up (v:V) (g:Gm) (H H':Hp) (k:Kt H H') (h:GmAt H v g):GmAt H' v g:=by
  obtain ⟨p, e, r⟩ := h
  exact ⟨p, e, k _ _ r⟩
def Bk (K:PySem.W.Frag) (H:Hp) (L:Addr) (gs:List Gm):Prop:=∃ vs,SqL K H L vs∧All2 (GmAt H) vs gs∧gs.length ≤ 100
theorem Bk.up {K:PySem.W.Frag} {H H':Hp} {L:Addr} {gs:List Gm} (s:Same H H') (h:Bk K H L gs):Bk K H' L gs:=by
  obtain ⟨vs, h1, h2, h3⟩ := h
  exact ⟨vs,s.seq h1,h2.imp fun v g r=>gm_up v g _ _ (kt_of s) r,h3⟩
def trn (g : Gm) : Gm := ⟨g.d, g.b, g.a, 2 - g.h, -g.s⟩
def plr (gs:List Gm):List Str:=srt (gs.map (·.a) ++ gs.map (·.b))
def isIn (n : Str) (g : Gm) : Bool := n == g.a || n == g.b
def toldG (n:Str) (g:Gm):Gm:=if g.a = n then g else trn g
def tld (n:Str) (gs:List Gm):List Gm:=(gs.filter (isIn n)).map (toldG n)
def tkr (n:Str) (gs:List Gm):List Str:=srt (((tld n gs).filter fun g=>decide (g.h < 2)).map (·.b))
theorem all2_strs {f:Gm→Str}:∀ {gs:List Gm} {ys:List V},All2 (fun g y=>y = V.str (f g)) gs ys→ys = (gs.map f).map V.str
  | _, _, .nil => rfl
  | _, _, .cons e r => by rw [e, all2_strs r]; rfl
theorem all2_map {f:Gm→Gm} {H:Hp}:∀ {gs:List Gm} {ys:List V},All2 (fun g y=>GmAt H y (f g)) gs ys→All2 (GmAt H) ys (gs.map f)
  | _, _, .nil => .nil
  | _, _, .cons e r => .cons e (all2_map r)
theorem all2_flip {α β:Type} {R:α→β→Prop}:∀ {l:List α} {m:List β},All2 R l m→All2 (fun b a=>R a b) m l
  | _, _, .nil => .nil
  | _, _, .cons x r => .cons x (all2_flip r)
theorem mem_plr {gs:List Gm} {x:Str}:x ∈ plr gs ↔ ∃ g ∈ gs,x = g.a ∨ x = g.b:=by
  unfold plr
  rw [mem_srt, List.mem_append, List.mem_map, List.mem_map]
  constructor
  · rintro (⟨g, h, rfl⟩ | ⟨g, h, rfl⟩)
    · exact ⟨g, h, .inl rfl⟩
    · exact ⟨g, h, .inr rfl⟩
  · rintro ⟨g, h, rfl | rfl⟩
    · exact .inl ⟨g, h, rfl⟩
    · exact .inr ⟨g, h, rfl⟩
theorem mem_tkr {gs:List Gm} {n x:Str}:x ∈ tkr n gs ↔ ∃ g ∈ gs,(g.a = n∧g.h < 2∧x = g.b) ∨ (g.a ≠ n∧g.b = n∧0 < g.h∧x = g.a):=by
  unfold tkr tld
  rw [mem_srt, List.mem_map]
  constructor
  · rintro ⟨g', h, rfl⟩
    obtain ⟨h1, h2⟩ := List.mem_filter.mp h
    obtain ⟨g, h3, rfl⟩ := List.mem_map.mp h1
    obtain ⟨h4, h5⟩ := List.mem_filter.mp h3
    have h2 := of_decide_eq_true h2
    refine ⟨g, h4, ?_⟩
    unfold toldG at *
    by_cases e : g.a = n
    · rw [if_pos e] at h2 ⊢
      exact .inl ⟨e, h2, rfl⟩
    · rw [if_neg e] at h2 ⊢
      unfold isIn at h5
      have e' : g.b = n := by
        rcases Bool.or_eq_true _ _ |>.mp h5 with z | z
        · exact absurd (eq_of_beq z).symm e
        · exact (eq_of_beq z).symm
      have h2 : 2 - g.h < 2 := h2
      exact .inr ⟨e, e', by omega, rfl⟩
  · rintro ⟨g, h, ⟨h1, h2, rfl⟩ | ⟨h1, h2, h3, rfl⟩⟩
    · refine ⟨g,List.mem_filter.mpr ⟨List.mem_map.mpr ⟨g,List.mem_filter.mpr ⟨h,?_⟩,if_pos h1⟩,decide_eq_true h2⟩,rfl⟩
      unfold isIn
      rw [h1]
      simp
    · refine ⟨trn g,List.mem_filter.mpr ⟨List.mem_map.mpr ⟨g,List.mem_filter.mpr ⟨h,?_⟩,if_neg h1⟩,decide_eq_true (by show 2 - g.h < 2; omega)⟩,rfl⟩
      unfold isIn
      rw [h2]
      simp
section
variable {X : Cx}
end
def gd (g:Gm):PyData:=.tuple [.int g.d,.str g.a,.str g.b,.int g.h,.int g.s]
theorem cl_strs:∀ {l:List Str},(∀ x ∈ l,PyData.strOk x = true)→PyData.canLayAll0 (l.map PyData.str) = true
  | [], _ => rfl
  | x :: l, h => by
    show (PyData.strOk x && PyData.canLayAll0 (l.map PyData.str)) = true
    rw [h x (List.mem_cons_self ..),cl_strs fun y hy=>h y (List.mem_cons_of_mem _ hy)]
    rfl
theorem dp_strs:∀ (l:List Str),PyData.depthAll (l.map PyData.str) = 0
  | [] => rfl
  | x :: l => by
    show max 0 (PyData.depthAll (l.map PyData.str)) = 0
    rw [dp_strs l]
    rfl
theorem sh_strs {l:List Str} (h:∀ x ∈ l,PyData.strOk x = true):SeqAt.shaped (.list (l.map PyData.str)) = true:=by
  unfold SeqAt.shaped
  rw [show (PyData.list (l.map PyData.str)).canLay0 = true from cl_strs h,show (PyData.list (l.map PyData.str)).depth = 0 + 1 from congrArg (· + 1) (dp_strs l)]
  rfl
theorem rpl_strs {K:PySem.W.Frag} {H:Hp}:∀ (l:List Str),RpL K H (l.map V.str) (l.map PyData.str)
  | [] => .nil
  | x :: l => .cons (.str x) (rpl_strs l)
theorem rp_strs {K:PySem.W.Frag} {H:Hp} {p:Addr} {l:List Str} (h:SqL K H p (l.map V.str)):Rp K H (.ref p) (.list (l.map PyData.str)):=.lst h (rpl_strs l)
theorem eqv_shaped {d:PyData} (h:SeqAt.shaped d = true):PyData.eqv d d = true:=SeqAt.eqv_refl d (SeqAt.canLay_of_shaped h)
theorem plr_sub {nm:List Str} {gs:List Gm} (h:∀ g ∈ gs,g.a ∈ nm∧g.b ∈ nm) {x:Str} (hx:x ∈ plr gs):x ∈ nm:=by
  obtain ⟨g, hg, rfl | rfl⟩ := mem_plr.mp hx
  · exact (h g hg).1
  · exact (h g hg).2
theorem plr_len {nm:List Str} {gs:List Gm} (h:∀ g ∈ gs,g.a ∈ nm∧g.b ∈ nm):(plr gs).length ≤ nm.length:=nd_len (inc_nodup (inc_srt _)) fun x hx=>plr_sub h hx
theorem tkr_sub {nm:List Str} {gs:List Gm} {n:Str} (h:∀ g ∈ gs,g.a ∈ nm∧g.b ∈ nm) {x:Str} (hx:x ∈ tkr n gs):x ∈ nm:=by
  obtain ⟨g,hg,⟨_,_,rfl⟩ | ⟨_,_,_,rfl⟩⟩:=mem_tkr.mp hx
  · exact (h g hg).2
  · exact (h g hg).1
theorem tkr_len {nm:List Str} {gs:List Gm} {n:Str} (h:∀ g ∈ gs,g.a ∈ nm∧g.b ∈ nm):(tkr n gs).length ≤ nm.length:=nd_len (inc_nodup (inc_srt _)) fun x hx=>tkr_sub h hx
end Lw
end
section
set_option Elab.async false
set_option linter.all false
set_option maxRecDepth 100000
set_option maxHeartbeats 4000000
namespace Lw
open PySem PySem.Spec PyProof.Rows L2
section
variable {X : Cx}
end
end Lw
end
section
set_option Elab.async false
set_option linter.all false
set_option maxRecDepth 100000
set_option maxHeartbeats 4000000
namespace Lw
open PySem PySem.Spec PyProof.Rows L2
theorem u1 {n m:Nat} (h:n + 64 < m):n + 1 < m:=by omega
structure TL (kvs:List (Key × V)) (ks:List Str) (f:Str→Int):Prop where
  key : kvs.map (·.1) = ks.map Sum.inr
  nd : ks.Nodup
  val:∀ x,valV kvs (Sum.inr x) = if x ∈ ks then some (.int (f x)) else none
  out : ∀ x, x ∉ ks → f x = 0
end Lw
end
section
set_option Elab.async false
set_option linter.all false
set_option maxRecDepth 100000
set_option maxHeartbeats 4000000
namespace Lw
open PySem PySem.Spec PyProof.Rows L2
section
variable {prog:Program} {w:World} {A:Around} {E:Value→Shared→Prop} {s:Shared}
theorem collectD {d:Addr} {vs:List (Key × Value)} {ep:Nat} {Q:List Value→Shared→Prop} (hh:A.handled = none) (hok:s.heap.DictAt (mixKind prog w) d vs ep) (lo:(d == sysModules) = false) (hn:vs.length ≤ sizeLine)
    (q:∀ xs g tk,(∀ b o,s.heap.get? b = some o→g.get? b = some o)→s.heap.objs.size < g.objs.size→xs.length = vs.length→(∀ (j:Nat) v,xs[j]? = some v→∃ k x,vs[j]? = some (k,x)∧(mixKind prog w).is k v = true)→Q xs { s with heap:=g,toks:=tk }) :
    wpAny (model prog w) A (collect (.ref d)) Q E s := by
  have la : d < s.heap.objs.size := hok.lt_size
  unfold collect
  refine wpAny_bind (wpAny_runValue (codeAny_builtin PySem.F.entry_proto_collect ?_))
  rw [Around.under_plainId PySem.F.plain_proto_collect _]
  show wpAny _ A.in1 (newList [] >>= fun l=>again (.builtin "list.__iadd__" ⟨[l,.ref d],[]⟩)) _ _ s
  refine wpAny_bind (wpAny_newObj_type (wpAny_pure ⟨plainId_quiet PySem.F.plain_list_iadd _,codeAny_builtin PySem.F.entry_list_iadd ?_⟩))
  rw [Around.under_plainId PySem.F.plain_list_iadd _]
  show wpAny _ A.in1 (Builtin.List.listExtendWith (.ref s.heap.objs.size) (.ref d) (.ref s.heap.objs.size)) _ _ _
  have hS:(s.heap.push { cls:=.type "list",data:=.seq ([]:List Value).toArray }).get? s.heap.objs.size = some { cls:=.type "list",data:=.seq #[] 0 }:=Heap.get?_push_size _ rfl
  refine PySem.W.kdl_extend (R:=wants (fun v s'=>wpAny (model prog w) A (match v with | Value.ref a=>(do let o ← load a; match o.data with | .seq xs _=>pure xs.toList | _=>unsupported "internal:collect") | _=>unsupported "internal:collect") Q E s') E) (s:={ s with heap:=s.heap.push { cls:=.type "list",data:=.seq ([]:List Value).toArray } }) (PySem.W.kdl_dict lo) hh (hok.push _) s.heap.objs.size (Nat.ne_of_gt la) (Nat.ne_of_gt la) (.ref s.heap.objs.size) 0 hS (fun h' tk acc c hk hS' it=>?_) hn
  show wpAny _ A (load s.heap.objs.size >>= _) _ _ _
  refine wpAny_bind (wpAny_load hS' (wpAny_pure (q acc.toList h' tk (fun b o e=>hk b o (Nat.ne_of_lt (Heap.lt_size e)) (Heap.get?_push_of_some _ e)) (Heap.lt_size hS') (by rw [Array.length_toList]; exact it.1) fun j v hv=>it.2 j v (by rw [← Array.getElem?_toList]; exact hv))))
theorem strs_of_get:∀ {names:List Str} {us:List Value},us.length = names.length→(∀ (j:Nat) v,us[j]? = some v→∃ x t,names[j]? = some x∧v = Value.str x t)→StrsAre us names
  | [], [], _, _ => .nil
  | [], _ :: _, h, _ => by simp at h
  | _ :: _, [], h, _ => by simp at h
  | x :: names, u :: us, h, a => by
    obtain ⟨y, t, e1, e2⟩ := a 0 u rfl
    simp at e1
    subst e1 e2
    refine .cons _ t (strs_of_get (by simpa using h) fun j v hv=>?_)
    have := a (j + 1) v (by simpa using hv)
    simpa using this
end
section
variable {X : Cx}
def dSortD:List V→Hp→VK→Prop:=fun xs H Q=>match xs with
  | [.ref d]=>∃ (kvs:List (Key × V)) (names:List Str),H d = some (.dK kvs)∧kvs.map (·.1) = names.map Sum.inr∧names.length < 64∧names.Nodup∧∀ D,H D = none→Q (.ref D) (upd H D (.lst ((srt names).map V.str)))
  | _ => False
theorem c_sortD (hc:X.calm = true:=by rfl):CallR X (.builtin "sorted") dSortD:=by
  intro pins s σ H xs us Q I r h
  match xs, h with
  | [.ref d], ⟨kvs, names, e, hk, h64, nd, q⟩ =>
    obtain ⟨u, rfl, ru⟩ := r.one
    cases (show u = Value.ref d from ru)
    obtain ⟨z, lo, vs, rel, dd⟩ := dk_of I.hok e
    have kk := rel.keys
    have kl := rel.length
    obtain ⟨o, es, ep, r1⟩ := dd
    have at':s.heap.DictAt (mixKind X.prog X.w) d vs ep:=⟨o,es,r1⟩
    have nl : kvs.length = names.length := by
      have := congrArg List.length hk
      simpa using this
    have hh := I.ok.hd hc
    refine Calls.call_function_entry kind_sorted plain_sorted entry_sorted (args_sorted1 _) ?_
    unfold Builtin.«sorted»
    refine wpAny_bind (m:=checkCount "sorted" 1 1 _) (wpAny_pure (wpAny_bind (collectD (by simp [hh]) at' lo (by omega) fun xs g tk keep lg hl hg=>?_)))
    have sa:StrsAre xs names:=strs_of_get (by omega) fun j v hv=>by
      obtain ⟨k, x, h1, h2⟩ := hg j v hv
      have h3:(vs.map (·.1))[j]? = some k:=by rw [List.getElem?_map,h1]; rfl
      rw [← kk, hk, List.getElem?_map] at h3
      cases hn : names[j]? with
      | none =>
        rw [hn] at h3
        cases h3
      | some y =>
        rw [hn] at h3
        cases h3
        rcases keyIs_shape (show keyIs (Sum.inr y) v = true from h2) with ⟨i,t,e1,_⟩ | ⟨y',t,e1,e2⟩
        · cases e1
        · cases e1
          exact ⟨y, t, rfl, e2⟩
    refine wpAny_bind (wpAny_newList ?_ (by omega))
    have hoL:(g.push (seqObj "list" xs.toArray 0)).get? g.objs.size = some (seqObj "list" xs.toArray 0):=Heap.get?_push_size _ rfl
    refine wpAny_bind (wpAny_holding (wpAny_call_entry slot_list_sort ⟨_,hoL,rfl⟩ entry_list_sort (list_sort_treeK strKind_oneLt hoL sa.keysOf (fun v1 v2 r e=>keyKind_strs (by rw [← e]; exact sa)) (by omega) fun st' a1 a2=>⟨_,rfl,wpAny_pure ⟨_,rfl,?_⟩⟩) (args_list_sort _)))
    obtain ⟨ys, b1, b2, b3⟩ := sorted_out_str sa a1 a2
    obtain ⟨n,hn⟩:=sortedHeap_at (out:=(arrOf st').map (·.2)) hoL
    have ey:ys = srt names:=inc_ext (pairwise_inc (sorted_le b3) (b2.nodup_iff.mpr nd)) (inc_srt _) fun x=>by rw [b2.mem_iff,mem_srt]
    subst ey
    have keep2:∀ b ob,s.heap.get? b = some ob→(sortedHeap (g.push (seqObj "list" xs.toArray 0)) g.objs.size xs ((arrOf st').map (·.2))).get? b = some ob:=fun b ob e=>by
      have hb := Heap.lt_size (keep b ob e)
      rw [sortedHeap_old (Nat.ne_of_lt hb) (by rw [Heap.size_push]; exact Nat.lt_succ_of_lt hb)]
      exact Heap.get?_push_of_some _ (keep b ob e)
    have I2:=I.laid (t':=tk) (h':=sortedHeap (g.push (seqObj "list" xs.toArray 0)) g.objs.size xs ((arrOf st').map (·.2))) (a:=g.objs.size) (o:=.lst ((srt names).map V.str)) keep2 (Nat.le_of_lt lg) ⟨by rw [List.length_map,b2.length_eq]; omega,((arrOf st').map (·.2)).toList,n,vals_str b1,by rw [hn]⟩
    exact ⟨.ref g.objs.size,_,I2,rfl,q _ (I.hok.fresh (Nat.le_of_lt lg))⟩
end
inductive Rch (gs : List Gm) (n : Str) : Str → Prop where
  | here : Rch gs n n
  | step {x y:Str}:Rch gs n x→y ∈ tkr x gs→Rch gs n y
theorem rch_sub {gs:List Gm} {n:Str} {l:List Str} (h0:n ∈ l) (hc:∀ x ∈ l,∀ y ∈ tkr x gs,y ∈ l) {x:Str} (h:Rch gs n x):x ∈ l:=by
  induction h with
  | here => exact h0
  | step _ hy ih => exact hc _ ih _ hy
theorem Rch.nm {gs:List Gm} {n:Str} {nm:List Str} (hn:n ∈ nm) (hm:∀ g ∈ gs,g.a ∈ nm∧g.b ∈ nm) {x:Str} (h:Rch gs n x):x ∈ nm:=rch_sub hn (fun _ _ y hy=>tkr_sub hm hy) h
end Lw
end
section
set_option Elab.async false
set_option linter.all false
set_option maxRecDepth 100000
set_option maxHeartbeats 4000000
namespace Lw
open PySem PySem.Spec PyProof.Rows L2
section
variable {X : Cx} {i o : Expr} {ty td : TE} {pos : Pos}
theorem t_dnotin (hu:X.A.units + 1 < cLine) (hi:PE X i ty) (ho:PE X o td) (hm:behindInMarks .NotIn o = false):PT X (.Compare i [.NotIn] [o] pos) (dTest (tDNotIn ty td)):=by
  rw [dTest_eqB]
  exact pt_cmp (pc_dnotin hu hi ho) hm
end
def VL (H:Hp) (R:Addr) (kvs:List (Key × V)):Prop:=∀ kv ∈ kvs,∃ p zs,kv.2 = V.ref p∧p ≠ R∧H p = some (.lst zs)∧zs.length ≤ kvs.length
theorem VL.up {H H':Hp} {R:Addr} {kvs:List (Key × V)} (h:VL H R kvs) (k:∀ p zs,p ≠ R→H p = some (.lst zs)→H' p = some (.lst zs)):VL H' R kvs:=fun kv hkv=>by
  obtain ⟨p, zs, e1, e2, e3, e4⟩ := h kv hkv
  exact ⟨p, zs, e1, e2, k p zs e2 e3, e4⟩
theorem VL.at {H:Hp} {R:Addr} {kvs:List (Key × V)} (h:VL H R kvs) {k:Key} {v:V} (e:valV kvs k = some v):∃ p zs,v = V.ref p∧p ≠ R∧H p = some (.lst zs)∧zs.length ≤ kvs.length:=by
  unfold valV at e
  cases hf : kvs.find? (fun kv => decide (kv.1 = k)) with
  | none =>
    rw [hf] at e
    cases e
  | some kv =>
    rw [hf] at e
    cases e
    exact h kv (List.mem_of_find?_eq_some hf)
theorem VL.snoc {H:Hp} {R p:Addr} {kvs:List (Key × V)} {k:Key} {zs:List V} (h:VL H R kvs) (e1:p ≠ R) (e2:H p = some (.lst zs)) (e3:zs.length ≤ kvs.length + 1):VL H R (kvs ++ [(k,.ref p)]):=fun kv hkv=>by
  rw [List.length_append, List.length_singleton]
  rcases List.mem_append.mp hkv with hkv | hkv
  · obtain ⟨q, ws, a1, a2, a3, a4⟩ := h kv hkv
    exact ⟨q, ws, a1, a2, a3, by omega⟩
  · rw [List.mem_singleton] at hkv
    subst hkv
    exact ⟨p, zs, rfl, e1, e2, e3⟩
theorem val_key {kvs:List (Key × V)} {ks:List Str} (h:kvs.map (·.1) = ks.map Sum.inr) (x:Str):(valV kvs (Sum.inr x)).isSome = decide (x ∈ ks):=by
  rw [← valV_any]
  have e:(kvs.any fun kv=>decide (kv.1 = Sum.inr x)) = (kvs.map (·.1)).any fun k=>decide (k = Sum.inr x):=by rw [List.any_map]; rfl
  rw [e, h, List.any_map]
  by_cases hx : x ∈ ks
  · rw [decide_eq_true hx, List.any_eq_true]
    exact ⟨x, hx, by simp⟩
  · rw [decide_eq_false hx, List.any_eq_false]
    intro y hy c
    have : y = x := by simpa using c
    exact hx (this ▸ hy)
structure WI (gs:List Gm) (n:Str) (H Hx:Hp) (D R:Addr) (ks rs:List Str) (kvs:List (Key × V)):Prop where
  sm : Same H Hx
  eD : Hx D = some (.dK kvs)
  ky : kvs.map (·.1) = (ks ++ rs).map Sum.inr
  vl : VL Hx R kvs
  eR : Hx R = some (.lst (rs.map V.str))
  nd : (ks ++ rs).Nodup
  rc : ∀ x ∈ ks ++ rs, Rch gs n x
theorem WI.up {gs:List Gm} {n:Str} {H Hx Hy:Hp} {D R:Addr} {ks rs:List Str} {kvs:List (Key × V)} (h:WI gs n H Hx D R ks rs kvs) (s:Same Hx Hy):WI gs n H Hy D R ks rs kvs :=
  ⟨h.sm.trans s,s _ _ h.eD,h.ky,h.vl.up fun p zs _ e=>s _ _ e,s _ _ h.eR,h.nd,h.rc⟩
theorem WI.len {gs:List Gm} {n:Str} {H Hx:Hp} {D R:Addr} {ks rs:List Str} {kvs:List (Key × V)} (h:WI gs n H Hx D R ks rs kvs):kvs.length = (ks ++ rs).length:=by
  have := congrArg List.length h.ky
  simpa using this
theorem ne_nil (l:List Str):(!PyData.eqv (.list (l.map PyData.str)) (.list (([]:List Str).map PyData.str))) = !l.isEmpty:=by
  cases l <;> rfl
theorem ne_of_lst {H:Hp} {p D:Addr} {zs:List V} {kvs:List (Key × V)} (h:H p = some (.lst zs)) (h':H D = some (.dK kvs)):p ≠ D:=fun e=>by
  rw [e, h'] at h
  cases h
theorem WI.add {gs:List Gm} {n y:Str} {H Hx H1 H2:Hp} {D R t1 t2 p:Addr} {ks rs:List Str} {kvs:List (Key × V)} {zs:List V} {x:Str} (h:WI gs n H Hx D R ks rs kvs) (hD:H D = none) (hR:H R = none) (hy:y ∉ ks ++ rs) (hx:x ∈ ks ++ rs) (ht:y ∈ tkr x gs)
    (n1:Hx t1 = none) (e1:H1 = upd Hx t1 (.lst [.str y])) (n2:H1 t2 = none) (e2:H2 = upd H1 t2 (.lst (zs ++ [.str y]))) (lz:zs.length ≤ kvs.length) :
    WI gs n H (upd (upd H2 D (.dK (putK kvs (Sum.inr y) (.ref t2)))) R (.lst ((rs ++ [y]).map V.str))) D R ks (rs ++ [y]) (kvs ++ [(Sum.inr y,.ref t2)]):=by
  have s1 : Same Hx H1 := by rw [e1]; exact same_upd n1
  have s2 : Same H1 H2 := by rw [e2]; exact same_upd n2
  have s := s1.trans s2
  have eD := s _ _ h.eD
  have eR := s _ _ h.eR
  have neRD : R ≠ D := ne_of_lst eR eD
  have e3:H2 t2 = some (.lst (zs ++ [.str y])):=by rw [e2]; exact upd_same
  have ne2D : t2 ≠ D := ne_of_lst e3 eD
  have ne2R : t2 ≠ R := fun z => by
    have := s1 _ _ h.eR
    rw [← z, n2] at this
    cases this
  have hv : valV kvs (Sum.inr y) = none := by
    have := val_key h.ky y
    rw [decide_eq_false hy] at this
    cases hh : valV kvs (Sum.inr y) with
    | none => rfl
    | some v => rw [hh] at this; cases this
  rw [putK_new _ hv]
  refine ⟨same_app' (same_app' (h.sm.trans s) hD) hR,by rw [upd_ne (Ne.symm neRD),upd_same],?_,?_,upd_same,?_,fun z hz=>?_⟩
  · rw [List.map_append,h.ky,← List.append_assoc,List.map_append (l₁:=ks ++ rs)]
    rfl
  · refine VL.snoc (h.vl.up fun q ws nq e=>?_) ne2R (by rw [upd_ne ne2R,upd_ne ne2D]; exact e3) (by rw [List.length_append,List.length_singleton]; omega)
    have := s _ _ e
    rw [upd_ne nq, upd_ne (ne_of_lst this eD)]
    exact this
  · rw [← List.append_assoc, List.nodup_append]
    exact ⟨h.nd,List.nodup_cons.mpr ⟨by simp,List.nodup_nil⟩,fun a ha b hb e=>by
      rw [List.mem_singleton] at hb
      subst hb e
      exact hy ha⟩
  · rw [← List.append_assoc] at hz
    rcases List.mem_append.mp hz with hz | hz
    · exact h.rc z hz
    · rw [List.mem_singleton] at hz
      subst hz
      exact .step (h.rc x hx) ht
end Lw
end
section
set_option Elab.async false
set_option linter.all false
set_option maxRecDepth 100000
set_option maxHeartbeats 4000000
namespace Lw
open PySem PySem.Spec PyProof.Rows L2
section
variable {X : Cx}
def dAny (K:PySem.W.Frag):List V→Hp→VK→Prop:=fun xs H Q=>match xs with
  | [.ref p]=>∃ bs:List Bool,SqL K H p (bs.map V.bl)∧Q (.bl (bs.any id)) H
  | _ => False
theorem range_any:∀ bs:List Bool,((List.range bs.length).any fun i=>bs.getD i false) = bs.any id:=by
  intro bs
  rw [Bool.eq_iff_iff, List.any_eq_true, List.any_eq_true]
  constructor
  · rintro ⟨i, hi, h⟩
    have hi := List.mem_range.mp hi
    rw [List.getD_eq_getElem?_getD,List.getElem?_eq_getElem hi] at h
    exact ⟨_, List.getElem_mem hi, h⟩
  · rintro ⟨b, hb, h⟩
    obtain ⟨i, hi, rfl⟩ := List.getElem_of_mem hb
    refine ⟨i, List.mem_range.mpr hi, ?_⟩
    rw [List.getD_eq_getElem?_getD,List.getElem?_eq_getElem hi]
    exact h
theorem c_any (hc:X.calm = true):CallR X (.builtin "any") (dAny X.K):=by
  intro pins s σ H xs us Q I r h
  match xs, h with
  | [.ref p], ⟨bs, h1, q⟩ =>
    obtain ⟨u, rfl, r1⟩ := vals1 r
    cases (show u = Value.ref p from r1)
    obtain ⟨its, rv, pl, _⟩ := I.list h1
    have e := vals_bls rv
    subst e
    have hh := I.ok.hd hc
    have il := pl.isList
    obtain ⟨ob, eb, rb⟩ := id il
    have ne:p ≠ s.heap.objs.size:=Nat.ne_of_lt (Heap.lt_size eb)
    refine call_any_walk (wpAny_pyIter_list il ?_)
    refine ⟨s.heap.objs.size,_,_,_,_,_,fun i=>bs.getD i false,rfl,Walks.list (A:=X.A.in1) hh s.heap.objs.size p ne (bs.map Value.bool).toArray,⟨⟨_,Heap.get?_push_size _ rfl,rfl,rfl⟩,⟨ob,Heap.get?_push_of_some _ eb,rb⟩⟩,fun i v s2 Q2 E2 hP hQ=>?_,fun h' tk k=>?_⟩
    · have hP:(bs.map Value.bool).toArray[i]? = some v:=hP
      rw [List.getElem?_toArray, List.getElem?_map] at hP
      cases e2 : bs[i]? with
      | none =>
        rw [e2] at hP
        cases hP
      | some d =>
        rw [e2] at hP
        cases hP
        refine wpAny_truthy_bool ?_
        have:bs.getD i false = d:=by rw [List.getD_eq_getElem?_getD,e2]; rfl
        rw [← this]
        exact hQ
    · refine ⟨.bl (bs.any id),H,I.kept (t':=tk) fun b o e=>k b o ?_ (Heap.get?_push_of_some _ e),?_,q⟩
      · intro z
        have z : b = s.heap.objs.size := by simpa using z
        exact Nat.lt_irrefl _ (z ▸ Heap.lt_size e)
      · show Value.bool _ = Value.bool _
        rw [List.size_toArray, List.length_map, range_any]
end
end Lw
end
section
set_option Elab.async false
set_option linter.all false
set_option maxRecDepth 100000
set_option maxHeartbeats 4000000
namespace Lw
open PySem PySem.Spec PyProof.Rows L2
theorem lookup_ne {α:Type} {x y:Str} {c:α} {cl:List (Str × α)} (h:x ≠ y):((y,c) :: cl).lookup x = cl.lookup x:=by
  rw [List.lookup_cons]
  have : (x == y) = false := by simpa using h
  rw [this]
theorem lookup_two {x y:Str} {c d:Addr} {cl:List (Str × Addr)} (h:((y,d) :: cl).lookup x = some c):(x = y∧d = c) ∨ (x ≠ y∧cl.lookup x = some c):=by
  by_cases e : x = y
  · subst e
    rw [List.lookup_cons] at h
    simp at h
    exact .inl ⟨rfl, h⟩
  · rw [lookup_ne e] at h
    exact .inr ⟨e, h⟩
theorem cellsFrom_acc:∀ (names:List (Str × NameKind)) (n:Nat) (acc:List (Str × Addr)),cellsFrom n names acc = cellsFrom n names [] ++ acc
  | [], n, acc => rfl
  | (x, k) :: r, n, acc => by
    unfold cellsFrom
    split
    · rw [cellsFrom_acc r (n + 1) ((x,n) :: acc),cellsFrom_acc r (n + 1) [(x,n)],List.append_assoc]
      rfl
    · exact cellsFrom_acc r n acc
abbrev cxD (X:Cx) (N cs:List Str) (s₀:Shared) (H₀:Hp) (env:Env) (fp:List Addr):Cx :=
  { X with N:=N,s₀:=s₀,H₀:=H₀,env:=env,outer:=X.stack,ex:=fp,fn:=fun x=>cs.contains x,pn:=[],xe:=fun _ _=>False }
section
variable {M:Model} {A:Around} {E:Value→Shared→Prop} {s:Shared}
theorem wpAny_newEnv_cell {scope:Scope} {globals:Addr} {cl:List (Str × Addr)} {yc:Str} {qual:Str} {func:Option Addr} {code:Value} {env:Env} {builtins:Addr} {Q:Env→Shared→Prop}
    (hcell:∀ n,cellsFrom n scope.names cl = (yc,n) :: cl)
    (hQ:∀ h':Heap,h'.Ns s.heap.objs.size (fun _=>none)→h'.IsCell (s.heap.objs.size + 1) none→(∀ b o,s.heap.get? b = some o→h'.get? b = some o) →
      Q (newEnv scope s.heap.objs.size globals ((yc,s.heap.objs.size + 1) :: cl) qual func code (some env) builtins) { s with heap:=h' }) :
    wpAny M A (newFunctionEnv scope globals cl [] qual func code (some env) builtins) Q E s:=by
  simp only [newFunctionEnv, Option.isSome_some, if_true]
  refine wpAny_bind (wpAny_alloc ?_)
  refine wpAny_bind (wpAny_layCells _ (fun name kind cells=>by cases hkc:kind == NameKind.cell <;> simp [hkc]) _ _ _ _ ?_)
  rw [show ({ s with heap:=s.heap.push { cls:=.type "dict",data:=.dict #[] } }:Shared).heap.objs.size = s.heap.objs.size + 1 from Heap.size_push ..,hcell]
  have hone:(pushCells (s.heap.push { cls:=.type "dict",data:=.dict #[] }) scope.names).IsCell (s.heap.objs.size + 1) none:=by
    have ok:=cellsFrom_ok scope.names (s.heap.push { cls:=.type "dict",data:=.dict #[] }) 0 [] ⟨fun _ _ hm=>(nomatch hm),List.Pairwise.nil⟩ (Nat.zero_le _)
    rw [Heap.size_push] at ok
    have e := hcell (s.heap.objs.size + 1)
    rw [cellsFrom_acc,show (yc,s.heap.objs.size + 1) :: cl = [(yc,s.heap.objs.size + 1)] ++ cl from rfl] at e
    have e := List.append_cancel_right e
    rw [e] at ok
    exact (ok.empty yc _ List.mem_cons_self).1
  refine wpAny_bind ?_
  rw [List.forIn_nil]
  refine wpAny_pure (wpAny_pure ?_)
  exact hQ _ ((Heap.Ns.new s.heap (.type "dict")).keeps (pushCells_keeps _ _)) hone fun b o e=>pushCells_keeps _ _ b o (Heap.get?_push_of_some _ e)
end
section
variable {X : Cx}
theorem comp_okK {pins:List (Addr × Obj)} {σ:L2.St} {H:Hp} {s:Shared} {N:List Str} {scope:Scope} {cl:List (Str × Addr)} {yc:Str} {C:Addr} {fp:List Addr} (I:Inv X pins σ H s) (hk:scope.kind = .function) (hC:s.heap.objs.size ≤ C)
    (hcl:∀ y c,cl.lookup y = some c→X.env.cells.lookup y = some c) (hhas:∀ y,((relabel scope X.env).names.lookup y = some .cell ∨ (relabel scope X.env).names.lookup y = some .free)→y = yc ∨ ∃ c,cl.lookup y = some c)
    (hf:∀ b ∈ fp,FpOk X pins H b∧b < s.heap.objs.size):(cxD X N [yc] s H (compEnvC scope ((yc,C + 1) :: cl) C X.env) fp).Ok where
  mod := I.ok.mod
  kind := hk
  glob := I.ok.glob
  blt := I.ok.blt
  above := hC
  inj := fun x y c e1 e2 => by
    have old:∀ z d,cl.lookup z = some d→d < C + 1:=fun z d e=>by
      obtain ⟨v, o, e3, _⟩ := I.cell z d (hcl z d e)
      exact Nat.lt_succ_of_lt (Nat.lt_of_lt_of_le (Heap.lt_size e3) hC)
    rcases lookup_two e1 with ⟨rfl,h1⟩ | ⟨_,h1⟩ <;> rcases lookup_two e2 with ⟨rfl,h2⟩ | ⟨_,h2⟩
    · rfl
    · exact absurd (old _ _ h2) (by rw [h1]; exact Nat.lt_irrefl _)
    · exact absurd (old _ _ h1) (by rw [h2]; exact Nat.lt_irrefl _)
    · exact I.ok.inj x y c (hcl x c h1) (hcl y c h2)
  has := fun x h => by
    by_cases e : x = yc
    · exact ⟨C + 1,by subst e; simp [compEnvC,List.lookup_cons]⟩
    · rcases hhas x h with z | ⟨c, z⟩
      · exact absurd z e
      · exact ⟨c, (lookup_ne e).trans z⟩
  cab := fun x c z e => by
    have e0 : x = yc := by simpa using z
    rcases lookup_two e with ⟨_, rfl⟩ | ⟨n, _⟩
    · exact Nat.le_succ_of_le hC
    · exact absurd e0 n
  hd := I.ok.hd
  frames := I.ok.frames
  stk := .inl rfl
  exf:=fun b hb=>⟨Nat.ne_of_lt (Nat.lt_of_lt_of_le (hf b hb).2 hC),fun x c e=>by
    rcases lookup_two e with ⟨_, rfl⟩ | ⟨_, e⟩
    · exact Nat.ne_of_gt (Nat.lt_succ_of_lt (Nat.lt_of_lt_of_le (hf b hb).2 hC))
    · exact (hf b hb).1.2.2.2.2.1 x c (hcl x c e)⟩
  bs := I.bs
  bsz := Nat.le_trans I.ok.bsz I.sz
  noex := fun b o e hb => by
    rcases (hf b hb).1.2.2.2.1 with z | z
    · exact I.ok.noex b o e z
    · exact absurd (Nat.lt_of_lt_of_le (Heap.lt_size (I.ok.bs b o e).1) z) (Nat.lt_irrefl _)
  exfs := fun b hb hm => by
    rcases List.mem_cons.mp (I.stkSub b hm) with z | z
    · exact (hf b hb).1.2.1 z
    · exact (hf b hb).1.2.2.1 z
  funs := I.stack
  frf := I.stkFree
theorem comp_coreK {elt iter tg cd:Expr} {scope:Scope} {pos:Pos} {wi:TI} {te:TE} {tc:TT} {g:TG} {N:List Str} {cl:List (Str × Addr)} {yc:Str} (k:Nat) (js:List Nat) (hi:PI X tg iter wi)
    (hg:∀ C s H fp,PG (cxD X N [yc] s H (compEnvC scope ((yc,C + 1) :: cl) C X.env) fp) tg g) (hd:∀ C s H fp,PT (cxD X N [yc] s H (compEnvC scope ((yc,C + 1) :: cl) C X.env) fp) cd tc) (he:∀ C s H fp,PE (cxD X N [yc] s H (compEnvC scope ((yc,C + 1) :: cl) C X.env) fp) elt te) (hcalm:X.calm = true)
    (hclos:closureFor scope X.env = pure cl) (hkind:scope.kind = .function) (hcell:∀ n,cellsFrom n scope.names cl = (yc,n) :: cl) (hnames:∀ y ∈ scope.names,y.2 = .local→scope.names.lookup y.1 = some .local)
    (hcl:∀ y c,cl.lookup y = some c→X.env.cells.lookup y = some c) (hhas:∀ y,((relabel scope X.env).names.lookup y = some .cell ∨ (relabel scope X.env).names.lookup y = some .free)→y = yc ∨ ∃ c,cl.lookup y = some c)
    (hlen:N.length = k + js.length) (hcap:∀ i j,js[i]? = some j→∃ y,N[k + i]? = some y∧y ≠ yc∧Cap X (relabel scope X.env) cl j y)
    (hs:∀ x,foldedSetIterable iter X.env x = pure x) {pins:List (Addr × Obj)} {s:Shared} {σ:L2.St} {H:Hp} {Q:VK} (I:Inv X pins σ H s) (h:dCompI wi g tc te k js σ H Q) {cpos:Pos} {use:Option (Value→Sem Unit)} {Qv:Value→Shared→Prop}
    (fin:∀ (s6:Shared) (H5:Hp) (D C:Addr) (m:Str→Option Value),Inv X pins σ H5 s6→s6.heap.Ns C m→H5 C = none→X.s₀.heap.objs.size ≤ C→C ≠ X.env.locals→(∀ x c,X.env.cells.lookup x = some c→c ≠ C)→(∀ p ∈ X.pn ++ pins,p.1 ≠ C)→Q (.ref D) H5 →
      compPost (model X.prog X.w) X.A X.xe use Qv (.ref D) C (.ok .next) s6) :
    wpAny (model X.prog X.w) X.A (comprehension (.ListComp elt [⟨tg,iter,[cd],0⟩] scope pos) scope X.env cpos (newList []) false (eval iter X.env) use) Qv X.xe s:=by
  refine wpAny_comprehension_free (use:=use) rfl hs hclos hkind hnames (thn (hi pins s σ H _ I h) fun v s1 h1=>thn h1 fun itv s2 h2=>?_)
  obtain ⟨it, fp, tn, J, H2, rfl, I2, T, st2, f2, h2⟩ := h2
  refine wpAny_newObj_type ?_
  have hD:H2 s2.heap.objs.size = none:=I2.hok.fresh (Nat.le_refl _)
  unfold CGoalI at h2
  obtain ⟨W, ⟨m0, w0⟩, turn⟩ := h2 _ hD
  have I3:Inv X pins σ (upd H2 s2.heap.objs.size (.lst [])) { s2 with heap:=s2.heap.push { cls:=.type "list",dict:=none,data:=.seq ([]:List Value).toArray } } :=
    I2.laid (t':=s2.toks) (fun b u e=>Heap.get?_push_of_some _ e) (Nat.le_refl _) ⟨Nat.zero_le _,[],0,.nil,Heap.get?_push_size _ rfl⟩
  have hlt:∀ b ∈ fp,b < s2.heap.objs.size:=fun b hb=>by
    obtain ⟨o, e, _⟩ := T.obj _ _ st2 b hb
    exact Heap.lt_size e
  have f3:∀ b ∈ fp,FpOk X pins (upd H2 s2.heap.objs.size (.lst [])) b:=fun b hb=>⟨by rw [upd_ne (Nat.ne_of_lt (hlt b hb))]; exact (f2 b hb).1,(f2 b hb).2⟩
  have st3:tn 0 (s2.heap.push { cls:=.type "list",dict:=none,data:=.seq ([]:List Value).toArray }):=T.keep _ _ _ st2 fun b hb o e=>Heap.get?_push_of_some _ e
  have hlt3:∀ b ∈ fp,b < (s2.heap.push { cls:=.type "list",dict:=none,data:=.seq ([]:List Value).toArray }).objs.size:=fun b hb=>Nat.lt_of_lt_of_le (hlt b hb) (by rw [Heap.size_push]; exact Nat.le_succ _)
  generalize hs3:({ s2 with heap:=s2.heap.push { cls:=.type "list",dict:=none,data:=.seq ([]:List Value).toArray } }:Shared) = s3 at I3
  have eh:s3.heap = s2.heap.push { cls:=.type "list",dict:=none,data:=.seq ([]:List Value).toArray }:=by rw [← hs3]
  rw [← eh] at st3 hlt3
  generalize hDD : s2.heap.objs.size = D at *
  generalize hH3 : upd H2 D (.lst []) = H3 at *
  clear hs3 eh
  refine wpAny_newEnv_cell (s:=s3) hcell fun h4 n4 nc4 old4=>?_
  have Ok:=comp_okK (N:=N) (C:=s3.heap.objs.size) (yc:=yc) I3 hkind (Nat.le_refl _) hcl hhas fun b hb=>⟨f3 b hb,hlt3 b hb⟩
  show codeAny _ _ (.compStart (.ListComp elt [⟨tg,iter,[cd],0⟩] scope pos) 0 (.ref it) (.ref D) (compEnvC scope ((yc,s3.heap.objs.size + 1) :: cl) s3.heap.objs.size X.env)) _ _
  generalize hC : s3.heap.objs.size = C at *
  have old:∀ b o,s3.heap.get? b = some o→h4.get? b = some o:=old4
  have fresh:H3 C = none:=I3.hok.fresh (by rw [hC]; exact Nat.le_refl _)
  have hcapl:∀ {i:Nat} {x:Str} {v:V},N[i]? = some x→(List.replicate k none ++ capσ js σ)[i]? = some (some v)→∃ u,L2.RelV v u∧Look (compEnvC scope ((yc,C + 1) :: cl) C X.env) h4 (fun _=>none) x u:=by
    intro i x v e1 e2
    by_cases hik : i < k
    · rw [List.getElem?_append_left (by simpa using hik)] at e2
      rw [List.getElem?_replicate] at e2
      simp [hik] at e2
    · rw [List.getElem?_append_right (by simpa using Nat.le_of_not_lt hik),List.length_replicate] at e2
      unfold capσ at e2
      rw [List.getElem?_map] at e2
      cases ej : js[i - k]? with
      | none =>
        rw [ej] at e2
        cases e2
      | some j =>
        rw [ej] at e2
        have e2:(σ[j]?).join = some v:=Option.some.inj e2
        obtain ⟨y, hy, hne, cp⟩ := hcap _ _ ej
        rw [show k + (i - k) = i by omega, e1] at hy
        cases hy
        obtain ⟨m, _, hl⟩ := I3.loc
        have e3 : σ[j]? = some (some v) := by
          cases q : σ[j]? with
          | none =>
            rw [q] at e2
            cases e2
          | some o =>
            rw [q] at e2
            have : o = some v := e2
            rw [this]
        obtain ⟨u,ru,lk⟩:=hl j x v cp.nm e3 (.inr (.inl cp.ko))
        refine ⟨u, ru, ?_⟩
        rcases lk with ⟨z, _⟩ | ⟨_, c, hc, z⟩
        · rw [cp.ko] at z
          cases z
        · refine .inr ⟨.inl cp.ki,c,by rw [← hc,← cp.cl]; exact lookup_ne hne,?_⟩
          obtain ⟨o, e, d⟩ := z
          exact ⟨o, old _ _ e, d⟩
  have I4:Inv (cxD X N [yc] s3 H3 (compEnvC scope ((yc,C + 1) :: cl) C X.env) fp) [] (List.replicate k none ++ capσ js σ) H3 { s3 with heap:=h4 }:=by
    refine ⟨Ok,rfl,I3.bare,Un.kept old,⟨_,n4,fun i x v e1 e2 e3=>?_⟩,fun x c e=>?_,fresh,fun x c e=>?_,fun p hp=>absurd hp (by simp),I3.hok.kept old,?_⟩
    · obtain ⟨u, ru, lk⟩ := hcapl e1 e2
      refine ⟨u, ru, ?_⟩
      rcases lk with ⟨z, q⟩ | q
      · cases q
      · exact .inr q
    · rcases lookup_two e with ⟨rfl, rfl⟩ | ⟨_, e⟩
      · exact ⟨none, nc4⟩
      · obtain ⟨v, o, e1, d⟩ := I3.cell x c (hcl x c e)
        exact ⟨v, o, old _ _ e1, d⟩
    · rcases lookup_two e with ⟨rfl, rfl⟩ | ⟨_, e⟩
      · exact I3.hok.fresh (by rw [hC]; exact Nat.le_succ _)
      · exact I3.freeC x c (hcl x c e)
    · simp [capσ, hlen]
  have fp4:∀ {H':Hp},(∀ b ∈ fp,H' b = none)→∀ b ∈ fp,FpOk (cxD X N [yc] s3 H3 (compEnvC scope ((yc,C + 1) :: cl) C X.env) fp) [] H' b:=fun hn b hb =>
    ⟨hn b hb,(Ok.exf b hb).1,Ok.exfs b hb,.inl hb,fun x c e=>(Ok.exf b hb).2 x c e,fun p hp=>absurd hp (by simp)⟩
  have st4:tn 0 h4:=T.keep _ _ _ st3 fun b hb o e=>old b o e
  have run : ∀ s4 : Shared, s4 = { s3 with heap := h4 } →
      codeAny (model X.prog X.w) X.A (.compLoop (.ListComp elt [⟨tg,iter,[cd],0⟩] scope pos) 0 (.ref it) (.ref D) (compEnvC scope ((yc,C + 1) :: cl) C X.env)) (compPost (model X.prog X.w) X.A X.xe use Qv (.ref D) C) s4:=by
    rintro s4 rfl
    refine loop_compI (fun n s'=>∃ i H' σ',Inv (cxD X N [yc] s3 H3 (compEnvC scope ((yc,C + 1) :: cl) C X.env) fp) [] σ' H' s'∧(∀ j:Nat,∀ v,(List.replicate k none ++ capσ js σ)[j]? = some (some v)→σ'[j]? = some (some v))∧tn i s'.heap∧(∀ b ∈ fp,H' b = none)∧W i n H') ?_ m0
      ⟨0,H3,_,I4,fun _ _ z=>z,st4,fun b hb=>(f3 b hb).1,w0⟩
    rintro n s5 ⟨i, H5, σ5, I5, cap5, st5, fr5, w5⟩
    have I5':=I5.weak (σ':=List.replicate k none ++ capσ js σ) (by rw [I5.len]; simp [capσ,hlen]) cap5
    rcases turn i n H5 w5 with ⟨stop, q⟩ | ⟨go, step⟩
    · refine thn (T.done (cxD X N [yc] s3 H3 (compEnvC scope ((yc,C + 1) :: cl) C X.env) fp) rfl rfl rfl hcalm i [] s5 σ5 H5 _ I5 (fp4 fr5) st5 stop) fun r s6 ⟨hr,I6⟩=>.inl ⟨hr,?_⟩
      obtain ⟨m6, n6, _⟩ := I6.loc
      have hCf : H5 C = none := I6.free
      have u6 := I6.base
      have uC:Un (frs X.stack) fp H3 H5 s3.heap s6.heap:=⟨u6.keep,u6.slot,u6.free,u6.there,u6.tups,u6.frzs,u6.tbls⟩
      have I7:Inv X pins σ H5 s6:=I3.call' (s':=s6) I6.os uC I6.hok I6.bare fun b hb=>⟨(f3 b hb).2.2.2.1,(f3 b hb).2.1,(f3 b hb).2.2.2.2.1,(f3 b hb).2.2.2.2.2⟩
      have lt3:∀ b o,s3.heap.get? b = some o→b ≠ C:=fun b o e=>by rw [← hC]; exact Nat.ne_of_lt (Heap.lt_size e)
      refine fin s6 H5 D C m6 I7 n6 hCf (by rw [← hC]; exact I3.sz) (by rw [← hC]; exact Nat.ne_of_gt I3.lt) (fun x c e=>?_) (fun p hp=>lt3 p.1 p.2 (I3.pin p hp).1) q
      obtain ⟨v, o, e1, _⟩ := I3.cell x c e
      exact lt3 c o e1
    · refine thn (T.item (cxD X N [yc] s3 H3 (compEnvC scope ((yc,C + 1) :: cl) C X.env) fp) rfl rfl rfl hcalm i [] s5 _ H5 _ I5' (fp4 fr5) st5 go) fun r s6 ⟨u,hr,h6⟩=>.inr ⟨u,hr,?_⟩
      refine thn h6 fun _ s7 ⟨x,H7,I7,r7,y7,st7,fr7⟩=>?_
      have I7' := I7.pinned (fp4 fr7) (T.obj _ _ st7)
      refine thn (hg C s3 H3 fp _ s7 _ H7 x u _ I7' r7 (step x H7 y7)) fun _ s8 ⟨σ8,H8,I8,d8,q8⟩=>?_
      have capk:∀ (j:Nat) v,(List.replicate k none ++ capσ js σ)[j]? = some (some v)→σ8[j]? = some (some v):=fun j v e=>by
        by_cases hjk : j < k
        · rw [List.getElem?_append_left (by simpa using hjk),List.getElem?_replicate] at e
          simp [hjk] at e
        · rw [List.getElem?_append_right (by simpa using Nat.le_of_not_lt hjk),List.length_replicate,← d8,List.getElem?_drop] at e
          rw [show k + (j - k) = j by omega] at e
          exact e
      refine thn (hd C s3 H3 fp _ s8 σ8 H8 _ I8 q8) fun b s8' ⟨H8',I8',q8'⟩=>⟨fun hb=>?_,fun hb=>?_⟩
      · refine thn (he C s3 H3 fp _ s8' σ8 H8' _ I8' (q8'.1 hb)) fun vv s9 ⟨vx,H9,I9,r9,xs,hx9,hz9,m',hm',w9⟩=>?_
        obtain ⟨z9,its,n9,rl,e9⟩:=(show ObjOk X.prog X.w H9 s9.heap D (.lst xs) from I9.hok D _ hx9)
        have app:=mt_append (X:=cxD X N [yc] s3 H3 (compEnvC scope ((yc,C + 1) :: cl) C X.env) fp) _ s9 σ8 H9 (.ref D) [vx] (.ref D) [vv] (fun _ H'=>H' = upd H9 D (.lst (xs ++ [vx]))) I9 rfl (.cons r9 .nil) ⟨D,xs,vx,rfl,rfl,hx9,hz9,rfl⟩
        refine thn app fun _ s10 ⟨_, H10, I10, _, e10⟩ => ?_
        subst e10
        refine ⟨m',hm',i + 1,_,σ8,I10.unpinned (pins:=[]),capk,T.keep _ _ _ st7 fun b hb o e=>(I10.pin (b,o) (List.mem_append_right _ (List.mem_append_right _ (mem_pinsAt hb e)))).1,fun b hb=>?_,w9⟩
        obtain ⟨o, e, d⟩ := T.obj _ _ st7 b hb
        exact (I10.pin (b,o) (List.mem_append_right _ (List.mem_append_right _ (mem_pinsAt hb e)))).2.1
      · obtain ⟨m', hm', w9⟩ := q8'.2 hb
        refine ⟨m',hm',i + 1,_,σ8,I8'.unpinned (pins:=[]),capk,T.keep _ _ _ st7 fun b hb o e=>(I8'.pin (b,o) (List.mem_append_right _ (List.mem_append_right _ (mem_pinsAt hb e)))).1,fun b hb=>?_,w9⟩
        obtain ⟨o, e, d⟩ := T.obj _ _ st7 b hb
        exact (I8'.pin (b,o) (List.mem_append_right _ (List.mem_append_right _ (mem_pinsAt hb e)))).2.1
  exact codeAny_compStart_list (run _ rfl) (T.self X.A 0 _ _ _ st4 (run _ rfl))
theorem e_compK {elt iter tg cd:Expr} {scope:Scope} {pos:Pos} {wi:TI} {te:TE} {tc:TT} {g:TG} {N:List Str} {cl:List (Str × Addr)} {yc:Str} (k:Nat) (js:List Nat) (hi:PI X tg iter wi)
    (hg:∀ C s H fp,PG (cxD X N [yc] s H (compEnvC scope ((yc,C + 1) :: cl) C X.env) fp) tg g) (hd:∀ C s H fp,PT (cxD X N [yc] s H (compEnvC scope ((yc,C + 1) :: cl) C X.env) fp) cd tc) (he:∀ C s H fp,PE (cxD X N [yc] s H (compEnvC scope ((yc,C + 1) :: cl) C X.env) fp) elt te) (hcalm:X.calm = true)
    (hclos:closureFor scope X.env = pure cl) (hkind:scope.kind = .function) (hcell:∀ n,cellsFrom n scope.names cl = (yc,n) :: cl) (hnames:∀ y ∈ scope.names,y.2 = .local→scope.names.lookup y.1 = some .local)
    (hcl:∀ y c,cl.lookup y = some c→X.env.cells.lookup y = some c) (hhas:∀ y,((relabel scope X.env).names.lookup y = some .cell ∨ (relabel scope X.env).names.lookup y = some .free)→y = yc ∨ ∃ c,cl.lookup y = some c)
    (hlen:N.length = k + js.length) (hcap:∀ i j,js[i]? = some j→∃ y,N[k + i]? = some y∧y ≠ yc∧Cap X (relabel scope X.env) cl j y)
    (hs:∀ x,foldedSetIterable iter X.env x = pure x:=by intro _; rfl):PE X (.ListComp elt [⟨tg,iter,[cd],0⟩] scope pos) (dCompI wi g tc te k js):=by
  intro pins s σ H Q I h
  rw [eval_ListComp]
  refine comp_coreK k js hi hg hd he hcalm hclos hkind hcell hnames hcl hhas hlen hcap hs I h fun s6 H5 D C m I6 n6 z1 z2 z3 z4 z5 q=>⟨m,n6,fun h7 sb7=>⟨.ref D,H5,?_,rfl,q⟩⟩
  exact I6.turned (t':=s6.toks) (fun b o hb e=>(sb7.2 b hb).trans e) z1 z3.symm.symm (.inr z2) z4 z5
theorem e_compKN {elt iter tg cd:Expr} {scope:Scope} {pos:Pos} {wi:TI} {te:TE} {tc:TT} {g:TG} {cl:List (Str × Addr)} {yc:Str} (own ys:List Str) (js:List Nat) (hclos:closureFor scope X.env = pure cl) (hi:PI X tg iter wi)
    (hg:∀ C s H fp,PG (cxD X (own ++ ys) [yc] s H (compEnvC scope ((yc,C + 1) :: cl) C X.env) fp) tg g) (hd:∀ C s H fp,PT (cxD X (own ++ ys) [yc] s H (compEnvC scope ((yc,C + 1) :: cl) C X.env) fp) cd tc) (he:∀ C s H fp,PE (cxD X (own ++ ys) [yc] s H (compEnvC scope ((yc,C + 1) :: cl) C X.env) fp) elt te) (hcalm:X.calm = true) (hkind:scope.kind = .function)
    (hcell:∀ n,cellsFrom n scope.names cl = (yc,n) :: cl) (hce2:(scope.names.all fun y=>y.2 != .cell || y.1 == yc) = true) (hny:ys.contains yc = false) (hnames:(scope.names.all fun y=>y.2 != .local || scope.names.lookup y.1 == some .local) = true) (hfr:(scope.names.all fun y=>y.2 != .free || (cl.map (·.1)).contains y.1) = true)
    (hcl:CellL X.env.cells cl) (hcap:CapL X (relabel scope X.env) cl ys js) (hs:∀ x,foldedSetIterable iter X.env x = pure x:=by intro _; rfl) :
    PE X (.ListComp elt [⟨tg,iter,[cd],0⟩] scope pos) (dCompI wi g tc te own.length js):=by
  rw [List.all_eq_true] at hce2 hnames hfr
  refine e_compK own.length js hi hg hd he hcalm hclos hkind hcell (fun y hy z=>?_) hcl.at (fun y h=>?_) (by rw [List.length_append,hcap.len]) (fun i j e=>?_) hs
  · have := hnames y hy
    rw [z] at this
    simpa using this
  · obtain ⟨z,hz,rfl,hk⟩:∃ z ∈ scope.names,z.1 = y∧(z.2 = .free ∨ z.2 = .cell):=by
      rcases h with h | h
      · exact relabel_has h (.inl rfl)
      · exact relabel_has h (.inr rfl)
    rcases hk with hk | hk
    · have := hfr z hz
      rw [hk] at this
      exact .inr (lookup_has (by simpa using this))
    · have := hce2 z hz
      rw [hk] at this
      exact .inl (by simpa using this)
  · obtain ⟨y, h1, h2⟩ := hcap.at i j e
    exact ⟨y,by rw [List.getElem?_append_right (Nat.le_add_right _ _),Nat.add_sub_cancel_left]; exact h1,fun z=>by
      subst z
      have hm : y ∈ ys := List.mem_of_getElem? h1
      rw [List.contains_eq_mem] at hny
      simp [hm] at hny, h2⟩
end
end Lw
end
set_option maxRecDepth 100000
set_option linter.all false
namespace PySem
open Sem (wp)
namespace F
theorem lz_entry_zip_ga:entryFor table "zip.__getattribute__" = some Builtin.«object.__getattribute__» :=
  entryFor_alias (id':="object.__getattribute__") (by kernel_rfl) (by first | rfl | decide +kernel) (by decide +kernel) (by kernel_rfl)
theorem lz_zip_keys:typeLookup (.type "zip") "keys" = pure none:=by rw [typeLookup_type,builtinLookup_eq_fast]; kernel_rfl
theorem lz_zip_getattr:typeLookup (.type "zip") "__getattr__" = pure none:=by rw [typeLookup_type,builtinLookup_eq_fast]; kernel_rfl
end F
theorem lz_miss (a:Addr) (fs:Array Value) (sl:Array (Option Value)) (u:Tok) :
    Meets (Builtin.«object.__getattribute__» ⟨[.ref a,.str "keys" u],[]⟩) (fun A R s=>s.heap.get? a = some { cls:=.type "zip",dict:=none,data:=.fields fs,slots:=sl }∧raisesAttr (.ref a) "keys" A R s) :=
  Meets.of_wp fun prog w A R s hs => by
    obtain ⟨hp, g, d, tk, os⟩ := s
    obtain ⟨hx, hs⟩ := hs
    have hT:(⟨hp,g,d,tk,os⟩:Shared).TypeIs (.ref a) "zip":=⟨_,hx,rfl⟩
    have f4 := F.lz_zip_keys
    unfold Builtin.«object.__getattribute__»
    repeat (any_goals (first | assumption | wp_step))
    exact wpAny_raiseAttrError hs.1 hs.2 (attrMsg_fits (by decide +kernel) (by size_fits))
theorem lz_keys_none {prog:Program} {w:World} {A:Around} {E:Value→Shared→Prop} {s:Shared} {a:Addr} {o:Obj} {fs:Array Value} {Q:Option Value→Shared→Prop}
    (hx:s.heap.get? a = some o) (hc:o.cls = .type "zip") (hdat:o.data = .fields fs) (hd:o.dict = none) (hA:A.handled = none)
    (h:∀ h' tk,(∀ b o,s.heap.get? b = some o→h'.get? b = some o)→Q none { s with heap:=h',toks:=tk }) :
    wpAny (model prog w) A (getAttr? (.ref a) "keys") Q E s:=by
  obtain ⟨c, dct, dat, sl⟩ := o
  simp only at hc hdat hd
  subst hc hdat hd
  obtain ⟨hp, g, d, tk, os⟩ := s
  have hT:∀ tk',(⟨hp,g,d,tk',os⟩:Shared).TypeIs (.ref a) "zip":=fun _=>⟨_,hx,rfl⟩
  have f1 := sub_AttributeError
  have f3 := F.slot_zip_getattribute.lookup
  have f4 := F.slot_zip_getattribute.bind (.ref a)
  have f5 := F.lz_zip_getattr
  unfold getAttr? getAttrBy? getAttrBy
  repeat (any_goals (first | assumption | exact hT _ | ((with_reducible show wpAny _ _ (call (Value.builtin "zip.__getattribute__") _ _) _ _ _); refine call_meets F.slot_zip_getattribute (hT _) F.lz_entry_zip_ga (F.args_zip_getattribute_2 _ _) (lz_miss a fs sl _) ⟨hx,hA,fun h' tk' e hx'=>?_⟩) | wp_step))
  obtain ⟨t', u', he⟩ := hx'.there
  show wpAny _ _ (getattributeRaised _ _ _ _ _ _ _) _ _ _
  unfold getattributeRaised
  repeat (any_goals (first | assumption | wp_step))
  exact h _ _ hx'.keeps
end PySem
section
set_option Elab.async false
set_option linter.all false
set_option maxRecDepth 100000
set_option maxHeartbeats 4000000
namespace Lw
open PySem PySem.Spec PyProof.Rows L2
abbrev IsZ2 (h:Heap) (z TI TO a:Addr) (b:Bool):Prop :=
  h.get? z = some { cls:=.type "zip",data:=.fields #[rawInt a,.bool b,.bool false,.ref TI,.ref TO] }
section
variable {prog:Program} {w:World} {A:Around} {E:Value→Shared→Prop} {s:Shared}
theorem owned_busy {z TI TO a:Addr} {b:Bool} {o:Obj} {Q:Bool→Shared→Prop} (Z:IsZ2 s.heap z TI TO a b) (al:s.heap.get? a = some o)
    (q:∀ g,IsZ2 g z TI TO a true→Heap.SameBut z s.heap g→Q false { s with heap:=g }):wpAny (model prog w) A (Builtin.SmallTypes.ownedTupleIsFree (.ref z)) Q E s:=by
  unfold Builtin.SmallTypes.ownedTupleIsFree
  refine wpAny_bind (wpAny_field Z rfl (x:=rawInt a) rfl ?_)
  show wpAny _ _ (loadIfAlive ((a : Int).toNat) >>= _) _ _ _
  rw [Int.toNat_natCast]
  refine wpAny_bind (PySem.W.kdx_alive al ?_)
  simp only [Option.isNone_some,Bool.false_eq_true,if_false]
  refine wpAny_bind (wpAny_field Z rfl (x:=.bool b) rfl ?_)
  cases b with
  | true =>
    rw [if_neg (by decide)]
    exact wpAny_pure (q _ Z (Heap.SameBut.refl ..))
  | false =>
    rw [if_pos (by decide)]
    exact wpAny_bind (wpAny_setField_rec Z (by simp) fun g1 z1 s1=>wpAny_pure (q g1 z1 s1))
theorem zip2_item {k1 k2:Bool} {z TI TO i1 i2 l1 l2 a:Addr} {b:Bool} {oa:Obj} {n:Nat} {xs ys:Array Value} {x y:Value} {Q:Option Value→Shared→Prop} (D:ZipApart z TI TO i1 i2 l1 l2)
    (Zz:IsZ2 s.heap z TI TO a b) (al:s.heap.get? a = some oa) (Zi:IsPair s.heap TI (.ref i1) (.ref i2)) (Za:ItK k1 s.heap i1 l1 n) (Zb:ItK k2 s.heap i2 l2 n)
    (hl1:SeK k1 s.heap l1 xs) (hl2:SeK k2 s.heap l2 ys) (hx:xs[n]? = some x) (hy:ys[n]? = some y)
    (q:∀ g,IsZ2 g z TI TO a true→ItK k1 g i1 l1 (n + 1)→ItK k2 g i2 l2 (n + 1)→IsPair g s.heap.objs.size x y →
      (∀ c o,c ≠ z→c ≠ i1→c ≠ i2→s.heap.get? c = some o→g.get? c = some o)→Q (some (.ref s.heap.objs.size)) { s with heap:=g }) :
    wpAny (model prog w) A (pyNext (.ref z)) Q E s := by
  have hT : s.TypeIs (.ref z) "zip" := ⟨_, Zz, rfl⟩
  unfold pyNext; refine wpAny_bind (wpAny_attempt (wpAny_callSpecial?_slot (name:=Str.ofString "__next__") hT F.slot_zip_next (wpAny_call_entry F.slot_zip_next hT F.entry_zip_next ?_ (F.args_zip_next_1 _))))
  show wpAny _ _ (field (Value.ref z) 2 >>= _) _ _ _
  refine wpAny_bind (wpAny_field Zz rfl (x:=.bool false) rfl ?_)
  show wpAny _ _ (field (Value.ref z) 3 >>= _) _ _ _
  refine wpAny_bind (wpAny_field Zz rfl (x:=.ref TI) rfl ?_)
  refine wpAny_bind (wpAny_seqItems Zi rfl ?_)
  show wpAny _ _ (Builtin.SmallTypes.ownedTupleIsFree (Value.ref z) >>= _) _ _ _
  refine wpAny_bind (owned_busy Zz al fun g1 z1 s1 => ?_)
  simp only [Bool.false_eq_true, if_false]
  simp only [← Array.forIn_toList,List.forIn_cons,List.forIn_nil]
  refine wpAny_bind (wpAny_bind (wpAny_bind (wpAny_holding ?_)))
  show wpAny _ _ (Builtin.SmallTypes.nextOf (Value.ref i1) >>= _) _ _ _
  refine wpAny_bind (nextK_item (Za.mv fun o e=>s1.extBut _ _ D.i1z e) (hl1.mv fun o e=>s1.extBut _ _ D.l1z e) hx fun g2 a2 s2=>wpAny_pure (wpAny_pure ?_))
  refine wpAny_bind (wpAny_bind (wpAny_holding ?_))
  show wpAny _ _ (Builtin.SmallTypes.nextOf (Value.ref i2) >>= _) _ _ _
  refine wpAny_bind (nextK_item (Zb.mv fun o e=>s2.extBut _ _ D.i12.symm (s1.extBut _ _ D.i2z e)) (hl2.mv fun o e=>s2.extBut _ _ D.l2i1 (s1.extBut _ _ D.l2z e)) hy fun g4 a4 s4=>wpAny_pure (wpAny_pure (wpAny_pure ?_)))
  show wpAny _ _ (newTuple [x, y] >>= _) _ _ _
  refine wpAny_bind (wpAny_newTuple (wpAny_pure ⟨_,rfl,?_⟩))
  have sz:g4.objs.size = s.heap.objs.size:=by rw [s4.1,s2.1,s1.1]
  have kp:∀ c o,c ≠ z→c ≠ i1→c ≠ i2→s.heap.get? c = some o→(g4.push { cls:=.type "tuple",data:=.seq #[x,y] }).get? c = some o:=fun c o n1 n2 n3 e=>Heap.get?_push_of_some _ (s4.extBut _ _ n3 (s2.extBut _ _ n2 (s1.extBut _ _ n1 e)))
  have t8:IsPair (g4.push { cls:=.type "tuple",data:=.seq #[x,y] }) g4.objs.size x y:=Heap.get?_push_size _ rfl
  show wpAny _ _ (pure (some (Value.ref g4.objs.size))) _ _ _
  rw [sz] at t8 ⊢
  exact wpAny_pure (q _ (Heap.get?_push_of_some _ (s4.extBut _ _ D.i2z.symm (s2.extBut _ _ D.i1z.symm z1))) (a2.mv fun o e=>Heap.get?_push_of_some _ (s4.extBut _ _ D.i12 e)) (a4.mv fun o e=>Heap.get?_push_of_some _ e) t8 kp)
theorem zip2_end {k1 k2:Bool} {z TI TO i1 i2 l1 l2 a:Addr} {b:Bool} {oa:Obj} {n:Nat} {xs ys:Array Value} {Q:Option Value→Shared→Prop} (hh:A.handled = none) (D:ZipApart z TI TO i1 i2 l1 l2)
    (Zz:IsZ2 s.heap z TI TO a b) (al:s.heap.get? a = some oa) (Zi:IsPair s.heap TI (.ref i1) (.ref i2)) (Za:ItK k1 s.heap i1 l1 n) (Zb:ItK k2 s.heap i2 l2 n)
    (hl1:SeK k1 s.heap l1 xs) (hl2:SeK k2 s.heap l2 ys) (hend:xs[n]? = none ∨ ys[n]? = none)
    (q:∀ g,(∀ c o,c ≠ z→c ≠ i1→c ≠ i2→s.heap.get? c = some o→g.get? c = some o)→Q none { s with heap:=g }):wpAny (model prog w) A (pyNext (.ref z)) Q E s:=by
  have hT : s.TypeIs (.ref z) "zip" := ⟨_, Zz, rfl⟩
  unfold pyNext; refine wpAny_bind (wpAny_attempt (wpAny_callSpecial?_slot (name:=Str.ofString "__next__") hT F.slot_zip_next (wpAny_call_entry F.slot_zip_next hT F.entry_zip_next ?_ (F.args_zip_next_1 _))))
  show wpAny _ _ (field (Value.ref z) 2 >>= _) _ _ _
  refine wpAny_bind (wpAny_field Zz rfl (x:=.bool false) rfl ?_)
  show wpAny _ _ (field (Value.ref z) 3 >>= _) _ _ _
  refine wpAny_bind (wpAny_field Zz rfl (x:=.ref TI) rfl ?_)
  refine wpAny_bind (wpAny_seqItems Zi rfl ?_)
  show wpAny _ _ (Builtin.SmallTypes.ownedTupleIsFree (Value.ref z) >>= _) _ _ _
  refine wpAny_bind (owned_busy Zz al fun g1 z1 s1 => ?_)
  simp only [Bool.false_eq_true, if_false]
  simp only [← Array.forIn_toList,List.forIn_cons,List.forIn_nil]
  refine wpAny_bind (wpAny_bind (wpAny_bind (wpAny_holding ?_)))
  show wpAny _ _ (Builtin.SmallTypes.nextOf (Value.ref i1) >>= _) _ _ _
  cases hx : xs[n]? with
  | none =>
    refine wpAny_bind (nextK_end hh (Za.mv fun o e=>s1.extBut _ _ D.i1z e) (hl1.mv fun o e=>s1.extBut _ _ D.l1z e) hx fun g2 e s2 ⟨oe,he,ce⟩=>?_)
    exact wpAny_bind (wpAny_isInstance (T:="StopIteration") (b:=true) ⟨oe,he,ce⟩ isSubtype_stop (wpAny_pure (q g2 fun c o n1 n3 _ x=>s2 _ _ n3 (s1.extBut _ _ n1 x))))
  | some x =>
    have hy:ys[n]? = none:=by rcases hend with h | h; rw [hx] at h; cases h; exact h
    refine wpAny_bind (nextK_item (Za.mv fun o e=>s1.extBut _ _ D.i1z e) (hl1.mv fun o e=>s1.extBut _ _ D.l1z e) hx fun g2 a2 s2=>wpAny_pure (wpAny_pure ?_))
    refine wpAny_bind (wpAny_bind (wpAny_holding ?_))
    show wpAny _ _ (Builtin.SmallTypes.nextOf (Value.ref i2) >>= _) _ _ _
    refine wpAny_bind (nextK_end hh (Zb.mv fun o e=>s2.extBut _ _ D.i12.symm (s1.extBut _ _ D.i2z e)) (hl2.mv fun o e=>s2.extBut _ _ D.l2i1 (s1.extBut _ _ D.l2z e)) hy fun g4 e s4 ⟨oe,he,ce⟩=>?_)
    exact wpAny_bind (wpAny_isInstance (T:="StopIteration") (b:=true) ⟨oe,he,ce⟩ isSubtype_stop (wpAny_pure (q g4 fun c o n1 n3 n4 x=>s4 _ _ n4 (s2.extBut _ _ n3 (s1.extBut _ _ n1 x)))))
theorem dz_entry:entryFor table "dict.update.loop" = some Builtin.«dict.update.loop»:=entryFor_of_tree (by kernel_rfl)
theorem dz_pair {p:Addr} {x y:Value} {Q:List Value→Shared→Prop} (h:IsPair s.heap p x y) (q:Q [x,y] s):wpAny (model prog w) A (Builtin.Dict.pairItems (.ref p)) Q E s:=by
  unfold Builtin.Dict.pairItems
  refine wpAny_bind (wpAny_typeOf (T:="tuple") ⟨_,h,rfl⟩ ?_)
  rw [if_pos (by decide)]
  exact wpAny_bind (wpAny_seqItems h rfl (wpAny_pure q))
section
variable {K : Type} [DecidableEq K] {knd : KeyKind prog w K}
structure Dz (knd:KeyKind prog w K) (k1 k2:Bool) (z TI TO i1 i2 l1 l2 D:Addr) (xs ys:Array Value) (kvs:List (K × Value)) (h0:Heap) (i:Nat) (h:Heap):Prop where
  dd : h.DictOf knd D (kvs.take i)
  ia : ItK k1 h i1 l1 i
  ib : ItK k2 h i2 l2 i
  sx : SeK k1 h l1 xs
  sy : SeK k2 h l2 ys
  ti : IsPair h TI (.ref i1) (.ref i2)
  zz:(i = 0∧IsZip h z TI TO .none∧∃ u v,IsPair h TO u v) ∨ ∃ p q oa,IsZ2 h z TI TO p q∧h.get? p = some oa∧p ≠ z∧p ≠ i1∧p ≠ i2∧p ≠ D
  old:∀ c o,c ≠ z→c ≠ TO→c ≠ i1→c ≠ i2→c ≠ D→h0.get? c = some o→h.get? c = some o
theorem take_stored {kvs:List (K × Value)} {i:Nat} {k:K} {v:Value} (hn:(kvs.map (·.1)).Nodup) (e:kvs[i]? = some (k,v)):stored (kvs.take i) k v = kvs.take (i + 1):=by
  have hlt:i < kvs.length:=(List.getElem?_eq_some_iff.mp e).1
  have hno:(kvs.take i).any (fun kv=>kv.1 = k) = false:=by
    rw [Bool.eq_false_iff]
    intro ha
    obtain ⟨kv, hm, hk⟩ := List.any_eq_true.mp ha
    obtain ⟨j, hj⟩ := List.mem_iff_getElem?.mp hm
    have hji : j < i := by
      have := (List.getElem?_eq_some_iff.mp hj).1
      rw [List.length_take] at this
      omega
    rw [List.getElem?_take_of_lt hji] at hj
    have e1:(kvs.map (·.1))[j]? = some k:=by rw [List.getElem?_map,hj]; exact congrArg some (by simpa using hk)
    have e2:(kvs.map (·.1))[i]? = some k:=by rw [List.getElem?_map,e]; rfl
    obtain ⟨b1, c1⟩ := List.getElem?_eq_some_iff.mp e1
    obtain ⟨b2, c2⟩ := List.getElem?_eq_some_iff.mp e2
    exact (List.pairwise_iff_getElem.mp hn) j i b1 b2 hji (c1.trans c2.symm)
  unfold stored
  rw [hno, List.take_add_one, e]
  rfl
theorem dz_loop {k1 k2:Bool} {z TI TO i1 i2 l1 l2 D:Addr} {xs ys:Array Value} {kvs:List (K × Value)} {h0:Heap} {R:Result→Shared→Prop} (hh:A.handled = none) (ap:ZipApart z TI TO i1 i2 l1 l2) (dz:D ≠ z) (dTO:D ≠ TO) (d1:D ≠ i1) (d2:D ≠ i2) (dTI:D ≠ TI) (dl1:D ≠ l1) (dl2:D ≠ l2)
    (hn:(kvs.map (·.1)).Nodup) (hz:kvs.length ≤ sizeLine)
    (hp:∀ (i:Nat) (k:K) (v:Value),kvs[i]? = some (k,v)→∃ x,xs[i]? = some x∧knd.is k x = true∧ys[i]? = some v) (he:xs[kvs.length]? = none ∨ ys[kvs.length]? = none):∀ (n i:Nat) (s:Shared),i + n = kvs.length→Dz knd k1 k2 z TI TO i1 i2 l1 l2 D xs ys kvs h0 i s.heap →
    (∀ h' tk,h'.DictOf knd D kvs→(∀ c o,c ≠ z→c ≠ TO→c ≠ i1→c ≠ i2→c ≠ D→h0.get? c = some o→h'.get? c = some o)→R (.ok (.ret .none)) { s with heap:=h',toks:=tk }) →
    codeAny (model prog w) A (.builtin "dict.update.loop" ⟨[.ref D,.ref z,rawInt i,.none],[]⟩) R s
  | 0, i, s, hi, S, fin => by
    refine codeAny_builtin dz_entry ?_
    have hi : i = kvs.length := by omega
    subst hi
    have dd:s.heap.DictOf knd D kvs:=by have:=S.dd; rwa [List.take_length] at this
    have stop:∀ g:Heap,(∀ c o,c ≠ z→c ≠ TO→c ≠ i1→c ≠ i2→s.heap.get? c = some o→g.get? c = some o)→R (.ok (.ret .none)) { s with heap:=g }:=fun g k =>
      fin g s.toks (by
        obtain ⟨o, es, ep, ho, r⟩ := dd
        exact ⟨o,es,ep,k _ _ dz dTO d1 d2 ho,r⟩) fun c o n1 n2 n3 n4 n5 e=>k c o n1 n2 n3 n4 (S.old c o n1 n2 n3 n4 n5 e)
    unfold Builtin.«dict.update.loop»
    refine wpAny_bind ?_
    rcases S.zz with ⟨_,z0,to⟩ | ⟨p,q,oa,z0,al,n1,n2,n3,n4⟩
    · refine zipK_end hh ap ⟨z0,S.ti,to,S.ia,S.ib⟩ S.sx S.sy he fun g k=>?_
      exact wpAny_bind (wpAny_pure (wpAny_pure (stop g k)))
    · refine zip2_end hh ap z0 al S.ti S.ia S.ib S.sx S.sy he fun g k=>?_
      exact wpAny_bind (wpAny_pure (wpAny_pure (stop g fun c o n1 _ n3 n4 e=>k c o n1 n3 n4 e)))
  | n + 1, i, s, hi, S, fin => by
    refine codeAny_builtin dz_entry ?_
    obtain ⟨⟨k,v⟩,ek⟩:∃ kv,kvs[i]? = some kv:=⟨kvs[i]'(by omega),List.getElem?_eq_getElem (by omega)⟩
    obtain ⟨x, ex, hk, ey⟩ := hp i k v ek
    have old2:∀ {c:Addr} {o:Obj},s.heap.get? c = some o→c ≠ s.heap.objs.size:=fun e=>Nat.ne_of_lt (Heap.lt_size e)
    unfold Builtin.«dict.update.loop»
    refine wpAny_bind (wpAny_mono (Q:=fun r s'=>∃ g pa,r = some (.ref pa)∧s' = { s with heap:=g }∧IsPair g pa x v∧Dz knd k1 k2 z TI TO i1 i2 l1 l2 D xs ys kvs h0 i s.heap ∧
        g.DictOf knd D (kvs.take i)∧ItK k1 g i1 l1 (i + 1)∧ItK k2 g i2 l2 (i + 1)∧SeK k1 g l1 xs∧SeK k2 g l2 ys∧IsPair g TI (.ref i1) (.ref i2)∧(∃ p q oa,IsZ2 g z TI TO p q∧g.get? p = some oa∧p ≠ z∧p ≠ i1∧p ≠ i2∧p ≠ D) ∧
        (∀ c o,c ≠ z→c ≠ TO→c ≠ i1→c ≠ i2→s.heap.get? c = some o→g.get? c = some o)) (E:=fun _ _=>False) ?_ (fun r s' hr=>?_) fun _ _ z=>z.elim)
    · obtain ⟨od, es, ep, hod, rd⟩ := S.dd
      rcases S.zz with ⟨_,z0,to⟩ | ⟨p,q,oa,z0,al,n1,n2,n3,n4⟩
      · refine zipK_item ap ⟨z0,S.ti,to,S.ia,S.ib⟩ S.sx S.sy ex ey fun g gz gto ga gb gp k=>⟨g,_,rfl,rfl,gp,S,⟨od,es,ep,k _ _ dz dTO d1 d2 hod,rd⟩,ga,gb,?_,?_,?_,⟨_,false,_,gz,gp,?_,?_,?_,?_⟩,k⟩
        · exact S.sx.mv fun o e=>k _ _ ap.l1z ap.l1TO ap.l1i1 ap.l1i2 e
        · exact S.sy.mv fun o e=>k _ _ ap.l2z ap.l2TO ap.l2i1 ap.l2i2 e
        · exact k _ _ ap.TIz ap.TITO ap.TIi1 ap.TIi2 S.ti
        · exact (old2 z0).symm
        · obtain ⟨o, e, _⟩ := S.ia.ob
          exact (old2 e).symm
        · obtain ⟨o, e, _⟩ := S.ib.ob
          exact (old2 e).symm
        · exact (old2 hod).symm
      · refine zip2_item ap z0 al S.ti S.ia S.ib S.sx S.sy ex ey fun g gz ga gb gp k=>⟨g,_,rfl,rfl,gp,S,⟨od,es,ep,k _ _ dz d1 d2 hod,rd⟩,ga,gb,?_,?_,?_,⟨p,true,oa,gz,k _ _ n1 n2 n3 al,n1,n2,n3,n4⟩,fun c o m1 _ m3 m4 e=>k c o m1 m3 m4 e⟩
        · exact S.sx.mv fun o e=>k _ _ ap.l1z ap.l1i1 ap.l1i2 e
        · exact S.sy.mv fun o e=>k _ _ ap.l2z ap.l2i1 ap.l2i2 e
        · exact k _ _ ap.TIz ap.TIi1 ap.TIi2 S.ti
    · obtain ⟨g,pa,rfl,rfl,gp,_,gd,ga,gb,gx,gy,gt,⟨p,q,oa,gz,al,n1,n2,n3,n4⟩,gk⟩:=hr
      refine wpAny_bind (wpAny_holding (wpAny_bind (wpAny_tryCatch (dz_pair gp ?_))))
      refine wpAny_holding (wpAny_dictSet_pairs hk gd (fun g' gd' sb=>?_) (by rw [List.length_take]; omega))
      rw [take_stored hn ek] at gd'
      refine wpAny_pure ⟨Code.quiet_builtin _ (by decide +kernel),?_⟩
      refine dz_loop (k1:=k1) (k2:=k2) hh ap dz dTO d1 d2 dTI dl1 dl2 hn hz hp he n (i + 1) _ (by omega) ⟨gd',?_,?_,?_,?_,?_,.inr ⟨p,q,oa,?_,?_,n1,n2,n3,n4⟩,?_⟩ fin
      · exact ga.mv fun o e => sb.extBut _ _ d1.symm e
      · exact gb.mv fun o e => sb.extBut _ _ d2.symm e
      · exact gx.mv fun o e => sb.extBut _ _ dl1.symm e
      · exact gy.mv fun o e => sb.extBut _ _ dl2.symm e
      · exact sb.extBut _ _ dTI.symm gt
      · exact sb.extBut _ _ dz.symm gz
      · exact sb.extBut _ _ n4 al
      · exact fun c o m1 m2 m3 m4 m5 e=>sb.extBut _ _ m5 (gk c o m1 m2 m3 m4 (S.old c o m1 m2 m3 m4 m5 e))
theorem dz_call {k1 k2:Bool} {z TI TO i1 i2 l1 l2:Addr} {xs ys:Array Value} {kvs:List (K × Value)} {Q:Value→Shared→Prop} (hh:A.handled = none) (ap:ZipApart z TI TO i1 i2 l1 l2) (Z:ZAt k1 k2 z TI TO i1 i2 l1 l2 0 s.heap) (hx:SeK k1 s.heap l1 xs) (hy:SeK k2 s.heap l2 ys)
    (hn:(kvs.map (·.1)).Nodup) (hz:kvs.length ≤ sizeLine)
    (hp:∀ (i:Nat) (k:K) (v:Value),kvs[i]? = some (k,v)→∃ x,xs[i]? = some x∧knd.is k x = true∧ys[i]? = some v) (he:xs[kvs.length]? = none ∨ ys[kvs.length]? = none)
    (fin:∀ h' tk,Heap.DictOf knd h' s.heap.objs.size kvs→(∀ c o,c ≠ z→c ≠ TO→c ≠ i1→c ≠ i2→s.heap.get? c = some o→h'.get? c = some o)→Q (.ref s.heap.objs.size) { s with heap:=h',toks:=tk }) :
    wpAny (model prog w) A (call (.type "dict") [.ref z]) Q E s:=by
  refine callType_codes (Q₁:=fun obj s₁=>obj = .ref s.heap.objs.size∧s₁ = { s with heap:=s.heap.push { cls:=.type "dict",data:=.dict #[] } }) F.kt_called_dict (F.kt_typeCall_dict_1 _) F.entry_dict_init (kt_code_dict_new _ ⟨rfl,rfl⟩) ?_
  rintro obj s₁ ⟨rfl, rfl⟩
  have hnew:(s.heap.push { cls:=.type "dict",data:=.dict #[] }).DictOf knd s.heap.objs.size []:=Heap.DictOf.new s.heap
  refine ⟨hnew.typeIs, F.args_dict_init_2 _ _, ?_⟩
  unfold Builtin.«dict.__init__»
  refine wpAny_bind ?_
  unfold Builtin.Dict.selfAndRest
  refine wpAny_bind (wpAny_notOrdered_dict hnew.typeIs ?_)
  show wpAny _ _ (pure (s.heap.objs.size,[Value.ref z])) _ _ _
  refine wpAny_pure ?_
  show wpAny _ _ (Builtin.Dict.updateFrom "dict.__init__" s.heap.objs.size (.ref z) [] .none) _ _ _
  unfold Builtin.Dict.updateFrom
  have Zz:IsZip (s.heap.push { cls:=.type "dict",data:=.dict #[] }) z TI TO .none:=Heap.get?_push_of_some _ Z.z
  refine wpAny_bind (wpAny_typeOf (T:="zip") ⟨_,Zz,rfl⟩ ?_)
  rw [if_pos (by decide)]
  refine wpAny_bind (lz_keys_none Zz rfl rfl rfl hh fun h1 tk1 kp=>?_)
  simp only [Option.isNone_none, if_true]
  refine wpAny_bind (wpAny_rule ?_)
  refine wpAny_bind (wpAny_pyIter_zip (kp _ _ Zz) ?_)
  refine wpAny_pure ⟨Code.quiet_builtin _ (by decide +kernel),?_⟩
  have nz:∀ {c:Addr} {o:Obj},s.heap.get? c = some o→s.heap.objs.size ≠ c:=fun e=>Nat.ne_of_gt (Heap.lt_size e)
  have kq:∀ b o,s.heap.get? b = some o→h1.get? b = some o:=fun b o e=>kp b o (Heap.get?_push_of_some _ e)
  obtain ⟨oa, ea, _⟩ := Z.a.ob
  obtain ⟨ob, eb, _⟩ := Z.b.ob
  obtain ⟨u, v, eto⟩ := Z.to
  have ddn:h1.DictOf knd s.heap.objs.size (kvs.take 0):=by
    obtain ⟨o, es, ep, ho, r⟩ := hnew
    exact ⟨o, es, ep, kp _ _ ho, r⟩
  refine dz_loop (A:=A.in1) (k1:=k1) (k2:=k2) (h0:=s.heap) hh ap (nz Z.z) (nz eto) (nz ea) (nz eb) (nz Z.ti) (Nat.ne_of_gt hx.lt) (Nat.ne_of_gt hy.lt) hn hz hp he kvs.length 0 _ (by omega) ⟨ddn,Z.a.mv fun o e=>kq _ _ e,Z.b.mv fun o e=>kq _ _ e,hx.mv fun o e=>kq _ _ e,hy.mv fun o e=>kq _ _ e,kq _ _ Z.ti,.inl ⟨rfl,kq _ _ Z.z,u,v,kq _ _ eto⟩,fun c o _ _ _ _ _ e=>kq c o e⟩ fun h' tk dd k=>⟨rfl,?_⟩
  exact fin h' tk dd fun c o n1 n2 n3 n4 e=>k c o n1 n2 n3 n4 (nz e).symm e
end
end
def tDzip (k1 k2:Bool) (K:PySem.W.Frag) (ta:TA):TE:=fun σ H Q=>ta σ H fun vs H1=>match vs with
  | [.ref a,.ref b]=>∃ (ks:List Key) (ws:List V),SqK k1 K H1 a (ks.map kV)∧SqK k2 K H1 b ws∧ks.length ≤ ws.length∧ks.Nodup∧ks.length ≤ 1000∧∀ D H',H1 D = none→H' = upd H1 D (.dK (ks.zip ws))→Q (.ref D) H'
  | _ => False
theorem kv_zip:∀ {ks:List Key} {ws:List V} {us:List Value},ks.length ≤ ws.length→Vals ws us→KV (ks.zip ws) (ks.zip us)
  | [], _, _, _, _ => .nil
  | _ :: _, [], _, h, _ => by simp at h
  | k :: ks,w :: ws,_,h,.cons r t=>.cons ⟨rfl,r⟩ (kv_zip (by simpa using h) t)
theorem Paired.at_ {α β:Type} {F:α→β→Prop}:∀ {xs:List α} {ys:List β} {i:Nat} {v:α},Paired F xs ys→xs[i]? = some v→∃ y,ys[i]? = some y∧F v y
  | _,_,0,_,.cons r t,e=>by cases e; exact ⟨_,rfl,r⟩
  | _, _, i + 1, _, .cons r t, e => by
    obtain ⟨y,h1,h2⟩:=Paired.at_ (i:=i) t (by simpa using e)
    exact ⟨y, by simpa using h1, h2⟩
section
variable {X : Cx}
theorem pe_dzip (k1 k2:Bool) {a b:Expr} {ta:TA} {p p2 pos pos2:Pos} (hg:Gl X "dict") (hm:X.mg "dict" = none) (hg2:Gl X "zip") (hm2:X.mg "zip" = none) (ha:PA X [a,b] ta) (hcalm:X.calm = true)
    (hs:starEach [a,b] X.env = [(false,eval a X.env),(false,eval b X.env)]:=by rfl) (hs2:starEach [b] X.env = [(false,eval b X.env)]:=by rfl) :
    PE X (.Call (.Name "dict" p) [.Call (.Name "zip" p2) [a,b] [] pos2] [] pos) (tDzip k1 k2 X.K ta):=by
  intro pins s σ H Q I h
  refine Call_ (ld_blt I hg hm PyProof.Rows.boot_dict (PyProof.Rows.callWith_type1 ?_))
  refine Calls.spliced_cons ?_
  refine Call_ (ld_blt I hg2 hm2 PyProof.Rows.boot_zip (PyProof.Rows.callWith_type1 (thn (ha pos2 pins s σ H _ I h) fun us s1 ⟨vs,H1,I1,r1,q1⟩=>?_) (by rw [hs,hs2]) (by rw [hs2]; rfl)))
  match vs, q1 with
  | [.ref l1,.ref l2],⟨ks,ws,hx,hy,hlen,hnd,hz,q⟩ =>
    obtain ⟨u, v, rfl, e1, e2⟩ := vals2 r1
    cases (show u = Value.ref l1 from e1)
    cases (show v = Value.ref l2 from e2)
    obtain ⟨us', rk, p1⟩ := sq_val I1 hx
    obtain ⟨vs', rv, p2⟩ := sq_val I1 hy
    have lt1 := p1.lt
    have lt2 := p2.lt
    have z1 := rk.length
    have z2 := rv.length
    rw [List.length_map] at z1
    refine call_zipK p1 p2 fun g Z kp=>Calls.spliced_nil ?_
    have sz:s1.heap.objs.size + 4 < g.objs.size:=Heap.lt_size Z.z
    refine dz_call (s:={ s1 with heap:=g }) (knd:=mixKind X.prog X.w) (kvs:=ks.zip vs') (I1.ok.hd hcalm) (apart_new lt1 lt2) Z (p1.mv fun o e=>kp _ _ e) (p2.mv fun o e=>kp _ _ e) ?_ ?_ ?_ ?_ fun h' tk dd k=>?_
    · rw [List.map_fst_zip (by omega)]
      exact hnd
    · rw [List.length_zip]
      exact Nat.le_trans (Nat.min_le_left _ _) (Nat.le_trans hz (by decide))
    · intro i k v e
      obtain ⟨e1, e2⟩ := List.getElem?_zip_eq_some.mp e
      obtain ⟨x,ex,rx⟩:=Paired.at_ rk (i:=i) (v:=kV k) (by rw [List.getElem?_map,e1]; rfl)
      exact ⟨x,by simpa using ex,kV_is rx,by simpa using e2⟩
    · left
      rw [List.length_zip]
      simp only [List.getElem?_toArray]
      exact List.getElem?_eq_none (by omega)
    · have hD:H1 g.objs.size = none:=I1.hok.fresh (by omega)
      refine ⟨.ref g.objs.size,_,I1.laid (a:=g.objs.size) (o:=.dK (ks.zip ws)) (t':=tk) (fun b o e=>?_) (by omega) (dk_new ?_ ?_ (kv_zip hlen rv) dd),rfl,q _ _ hD rfl⟩
      · have lt:@LT.lt Nat _ b s1.heap.objs.size:=Heap.lt_size e
        exact k b o (show @Ne Nat _ _ by omega) (show @Ne Nat _ _ by omega) (show @Ne Nat _ _ by omega) (show @Ne Nat _ _ by omega) (kp b o e)
      · rw [List.length_zip]
        exact Nat.le_trans (Nat.min_le_left _ _) (Nat.le_trans hz (by decide))
      · have:@LT.lt Nat _ sysModules s1.heap.objs.size:=I1.big
        exact beq_eq_false_iff_ne.mpr (show @Ne Nat _ _ by omega)
end
end Lw
end
section
set_option Elab.async false
set_option linter.all false
set_option maxRecDepth 100000
set_option maxHeartbeats 4000000
namespace Lw
open PySem PySem.Spec PyProof.Rows L2
structure DfnN (K:PySem.W.Frag) (mg:Str→Option Value) (x:Str) (st:Stmt) (ps:List Str):Prop where
  ex:∃ (f:Addr) (fd:FuncData) (oc:Value) (od:Option Addr) (dV kV doc pm:Value) (an:Option Addr) (cdv ct:Value) (osl:Array (Option Value)),
    fd = PySem.W.fnOf x x (defArgs st) (defBody st) (defScope st) dV kV doc pm an cdv ct∧K.lookup f = some ⟨oc,od,.func fd,osl⟩∧PySem.W.codeIn K cdv x = true∧PySem.W.keepIn K (.ref f) = true∧mg x = some (.ref f)∧Binds K fd ps []∧Binds K fd ps [.none]
structure CalN (P:Program) (w:World) (K:PySem.W.Frag) (mg:Str→Option Value) (base:Heap) (x:Str) (ps:List Str) (k:Nat) (sp:Sp):Prop where
  ex:∃ (f:Addr) (fd:FuncData),mg x = some (.ref f)∧PySem.W.keepIn K (.ref f) = true∧Binds K fd ps []∧Binds K fd ps [.none]∧FnOk P w K mg base (CXE P w) k f fd ps sp ∧
    ∃ (oc:Value) (od:Option Addr) (osl:Array (Option Value)),K.lookup f = some ⟨oc,od,.func fd,osl⟩
theorem CalN.cal {P:Program} {w:World} {K:PySem.W.Frag} {mg:Str→Option Value} {base:Heap} {x:Str} {ps:List Str} {k:Nat} {sp:Sp} (C:CalN P w K mg base x ps k sp):Cal P w K mg base x ps k sp:=by
  obtain ⟨f, fd, h1, h2, h3, _, h4, h5⟩ := C.ex
  exact ⟨f, fd, h1, h2, h3, h4, h5⟩
section
variable {P:Program} {w:World} {K:PySem.W.Frag} {mg:Str→Option Value} {base:Heap}
theorem DfnN.calX {x:Str} {st:Stmt} {N ps:List Str} {k:Nat} {sp:Sp} (d:DfnN K mg x st ps) (S:FnScope N ps (defScope st)) (len:∀ vs H Q E,sp vs H Q E→vs.length = ps.length)
    (hbody:∀ (f:Addr) (cdv:Value) (A:Around) (outer:List Env) (s:Shared) (H:Hp) (vs:List V) (Q:VK) (E:XK),Room k (A.deeper (envOfC x (defScope st) s.heap.objs.size f cdv))→sp vs H Q E →
      ∃ t,PSs (cxOf (CXE P w) P w K mg base N x (defScope st) f cdv A outer s H E) (defBody st) t∧t { nx:=fun _ H'=>Q .non H',rt:=Q } (start N vs) H):CalN P w K mg base x ps (k + 1) sp:=by
  obtain ⟨f,fd,oc,od,dV,kV,doc,pm,an,cdv,ct,osl,rfl,lk,hcd,kp,hm,hb,hb2⟩:=d.ex
  exact ⟨f,_,hm,kp,hb,hb2,fn_of lk hcd S len fun A outer s H vs Q E hr hsp=>hbody f cdv A outer s H vs Q E hr hsp,oc,od,osl,lk⟩
theorem DfnN.cal {x:Str} {st:Stmt} {N ps:List Str} {k:Nat} {sp:Sp} (d:DfnN K mg x st ps) (S:FnScope N ps (defScope st)) (len:∀ vs H Q E,sp vs H Q E→vs.length = ps.length)
    (hbody:∀ (f:Addr) (cdv:Value) (A:Around) (outer:List Env) (s:Shared) (H:Hp) (vs:List V) (Q:VK) (E:XK),Room k (A.deeper (envOfC x (defScope st) s.heap.objs.size f cdv))→sp vs H Q E →
      ∃ t,PSs (cxOf (CXE P w) P w K mg base N x (defScope st) f cdv A outer s H E).nox (defBody st) t∧t { nx:=fun _ H'=>Q .non H',rt:=Q } (start N vs) H):CalN P w K mg base x ps (k + 1) sp :=
  d.calX S len fun f cdv A outer s H vs Q E hr hsp => by
    obtain ⟨t,h,q⟩:=hbody f cdv A outer s H vs Q E hr hsp
    exact ⟨t, h.nox, q⟩
theorem dfnN_mk {x:Str} {st:Stmt} {f T:Addr} {oc kV doc pm cdv ct:Value} {od an:Option Addr} {osl:Array (Option Value)} {ps:List Str} {ot:Obj} {n:Nat}
    (l:K.lookup f = some ⟨oc,od,.func (PySem.W.fnOf x x (defArgs st) (defBody st) (defScope st) (.ref T) kV doc pm an cdv ct),osl⟩) (t:K.lookup T = some ot) (td:ot.data = .seq #[.none] n)
    (c:PySem.W.codeIn K cdv x = true) (kp:PySem.W.keepIn K (.ref f) = true) (a:mg x = some (.ref f))
    (h1:∀ us:List Value,us.length = ps.length→∃ k:Option (Array Value)→Sem (List (Str × Value)),bindArgs (PySem.W.fnOf x x (defArgs st) (defBody st) (defScope st) (.ref T) kV doc pm an cdv ct) ⟨us,[]⟩ = seqItems? (.ref T) >>= k∧k (some #[.none]) = pure (ps.zip us))
    (h2:∀ us:List Value,(us ++ [Value.none]).length = ps.length→∃ k:Option (Array Value)→Sem (List (Str × Value)),bindArgs (PySem.W.fnOf x x (defArgs st) (defBody st) (defScope st) (.ref T) kV doc pm an cdv ct) ⟨us,[]⟩ = seqItems? (.ref T) >>= k∧k (some #[.none]) = pure (ps.zip (us ++ [Value.none]))) :
    DfnN K mg x st ps := by
  refine ⟨f,_,oc,od,.ref T,kV,doc,pm,an,cdv,ct,osl,rfl,l,c,kp,a,fun s us X hl=>?_,fun s us X hl=>?_⟩
  · rw [List.append_nil] at hl ⊢
    obtain ⟨k, e1, e2⟩ := h1 us hl
    exact BindsTo.of_defaults rfl (X _ _ t) td e1 e2
  · obtain ⟨k, e1, e2⟩ := h2 us hl
    exact BindsTo.of_defaults rfl (X _ _ t) td e1 e2
end
section
variable {X : Cx}
end
end Lw
end
section
set_option Elab.async false
set_option linter.all false
set_option maxRecDepth 100000
set_option maxHeartbeats 4000000
namespace Lw
open PySem PySem.Spec PyProof.Rows L2
section
variable {X : Cx}
end
structure QA (X : Cx) (es : List Expr) (t : TA) : Prop where
  pa : PA X es t
end Lw
end
section
set_option Elab.async false
set_option linter.all false
set_option maxRecDepth 100000
set_option maxHeartbeats 4000000
set_option autoImplicit false
namespace Lw
open PySem PySem.Spec PyProof.Rows L2
section
variable {X : Cx} {pos : Pos}
def dListN (K:PySem.W.Frag):List V→Hp→VK→Prop:=fun xs H Q=>match xs with
  | [.ref p]=>∃ ys,(SqL K H p ys ∨ SqT K H p ys)∧∀ l,H l = none→Q (.ref l) (upd H l (.lst ys))
  | _ => False
theorem c_listN : CallR X (.type "list") (dListN X.K) := by
  intro pins s σ H xs us Q I r h
  match xs, h with
  | [.ref p],⟨ys,h1,q⟩=>exact call_list_of pins s σ H _ us Q I r ⟨p,ys,rfl,h1,q⟩
end
end Lw
end
section
set_option Elab.async false
set_option linter.all false
set_option maxRecDepth 100000
set_option maxHeartbeats 4000000
set_option autoImplicit false
namespace Lw
open PySem PySem.Spec PyProof.Rows L2
section
variable {X : Cx} {pos : Pos}
structure TupD (K:PySem.W.Frag) (a:Addr) (xs:List V):Prop where
  sq : ∀ H, SqT K H a xs
  ty:∃ o,K.lookup a = some o∧o.cls = .type "tuple"∧o.dict = none
def dNotInS (K:PySem.W.Frag):R2:=fun x y H Q=>match y with
  | .ref p=>∃ xs,(SqL K H p xs ∨ SqT K H p xs)∧flatV x = true∧xs.all flatV = true∧Q (.bl (!inV x xs)) H
  | _ => False
theorem o_notin:OpR X (compareOp .NotIn) (dNotInS X.K):=by
  intro pins s σ H x y v u Q I rx ry q
  cases y <;> first
    | exact False.elim q
    | (obtain ⟨xs, h1, h2, h3, q⟩ := q
       exact op_notIn_seq _ _ _ _ _ _ _ _ _ I rx ry ⟨_,xs,rfl,h1,h2,h3,q⟩)
end
section
open PySem.AutoSeq1 (wpAny_loadPart')
open PySem.MeetsSeq PySem.MeetsSeq2 PySem.MeetsSeq3 PySem.SeqRoads2 PySem.SeqAt
section
variable {X : Cx} {pos : Pos}
end
end
end Lw
end
section
set_option Elab.async false
set_option linter.all false
set_option maxRecDepth 100000
set_option maxHeartbeats 4000000
set_option autoImplicit false
namespace Lw
open PySem PySem.Spec PyProof.Rows L2
section
variable {X : Cx} {pos p2 p3 p4 : Pos}
end
end Lw
end
section
set_option Elab.async false
set_option linter.all false
set_option maxRecDepth 100000
set_option maxHeartbeats 4000000
namespace Lw
open PySem PySem.Spec PyProof.Rows L2
section
variable {X : Cx}
theorem inv_frz {pins:List (Addr × Obj)} {σ:L2.St} {H:Hp} {s:Shared} {a:Addr} {kvs:List (Key × V)} {o:Obj} (I:Inv X pins σ H s) (ha:H a = some (.dK kvs)) (ho:s.heap.get? a = some o):Inv X pins σ (upd H a (.frz o (.dK kvs))) s:=by
  have old:∀ b u,H b = some u→b ≠ a→upd H a (.frz o (.dK kvs)) b = some u:=fun b u e n=>by rw [upd_ne n]; exact e
  refine I.step (g':=s.gens) (d':=s.drawn) (t':=s.toks) (h':=s.heap) (ch:=[]) (fun _ z=>nomatch z) (fun b o _ _ _ e _=>e) (fun b o _ _ _ e _=>⟨o.slots,e⟩) (fun b u _ e n=>?_) (fun b o _ e=>⟨o,e⟩) (fun b xs e=>old b _ e ?_) (fun b ob u e=>old b _ e ?_)
    (fun b ps e=>⟨#[],by rw [old b _ e (fun z=>by rw [z,ha] at e; cases e)]; simp⟩) (fun m hm=>hm) (fun b u e=>?_) I.bare
  · rw [upd_ne (fun z => by rw [z, ha] at n; cases n)]
    exact n
  · intro z
    rw [z, ha] at e
    cases e
  · intro z
    rw [z, ha] at e
    cases e
  · have ho':∀ b c,H b = some (.own c)→upd H a (.frz o (.dK kvs)) b = some (.own c):=fun b c e=>old b _ e fun z=>by rw [z,ha] at e; cases e
    have ht':∀ b xs,H b = some (.tup xs)→upd H a (.frz o (.dK kvs)) b = some (.tup xs):=fun b xs e=>old b _ e fun z=>by rw [z,ha] at e; cases e
    by_cases hb : b = a
    · subst hb
      rw [upd_same] at e
      cases e
      exact ⟨ho,(I.hok b _ ha).stay (fun c v _ q=>q) (fun c q=>ho' c _ q) ht'⟩
    · rw [upd_ne hb] at e
      exact (I.hok b u e).stay (fun c v _ q=>q) (fun c q=>ho' c _ q) ht'
def Itd (a : Addr) (o : Obj) (names : List Str) : It :=
  ⟨fun i H=>(∃ kvs,H a = some (.frz o (.dK kvs))∧kvs.map (·.1) = names.map Sum.inr)∧i < names.length,
   fun i H v H'=>H' = H∧∃ x,names[i]? = some x∧v = .str x,
   fun i H=>(∃ kvs,H a = some (.frz o (.dK kvs))∧kvs.map (·.1) = names.map Sum.inr)∧names.length ≤ i⟩
theorem turn_keys {P:Program} {w:World} {K:PySem.W.Frag} {tg:Expr} {it a:Addr} {o:Obj} {names:List Str} {es:Array DictEntry} {ep:Nat} (ho:o.data = .dict es ep) :
    Turn P w K tg (Itd a o names) [it] it (fun i h=>h.IsKeyIter it a i names.length ep) where
  mem := by simp
  obj := fun i h Z c hc => by
    have hc : c = it := by simpa using hc
    subst hc
    obtain ⟨o, e, _, d⟩ := Z
    exact ⟨o, e, fun v z => by rw [d] at z; cases z⟩
  keep := fun i h h' Z k => by
    obtain ⟨o, e, r⟩ := Z
    exact ⟨o, k it (by simp) o e, r⟩
  item := by
    intro X hP hw hK hc i pins s σ H E I hf Z hg
    subst hP hw hK
    obtain ⟨⟨kvs, e, hk⟩, hi⟩ := hg
    obtain ⟨e0,z,lo,vs,rel,dd⟩:=(show ObjOk X.prog X.w H s.heap a (.frz o (.dK kvs)) from I.hok a _ e)
    have kk := rel.keys
    have kl := rel.length
    have nl : kvs.length = names.length := by
      have := congrArg List.length hk
      simpa using this
    obtain ⟨o', es', ep', r0, r1, r2, r3⟩ := dd
    rw [e0] at r0
    cases r0
    rw [ho] at r2
    cases r2
    have at':s.heap.DictAt (mixKind X.prog X.w) a vs ep:=⟨o,es,e0,r1,ho,r3⟩
    have vl : vs.length = names.length := by omega
    have hx:vs[i]? = some (vs[i]'(by omega)):=List.getElem?_eq_getElem (by omega)
    generalize vs[i]'(by omega) = kv at hx
    obtain ⟨k, u⟩ := kv
    have h3:(vs.map (·.1))[i]? = some k:=by rw [List.getElem?_map,hx]; rfl
    rw [← kk, hk, List.getElem?_map] at h3
    have hn:names[i]? = some names[i]:=List.getElem?_eq_getElem hi
    rw [hn] at h3
    cases h3
    have Z:s.heap.IsKeyIter it a i vs.length ep:=by rw [vl]; exact Z
    refine wpAny_pyNext_dict_item Z at' hx fun key g hkey hit sb=>⟨_,rfl,?_⟩
    refine letGo_keyiter (s' := { s with heap := g }) hit ?_
    have I1:Inv X pins σ H { s with heap:=g }:=inv_moved I (t':=s.toks) (fp:=[it]) (fun c o hc e=>sb.extBut c o (fun x=>hc (by simp [x])) e) hf
    rcases keyIs_shape (show keyIs (Sum.inr names[i]) key = true from hkey) with ⟨i',t,e1,_⟩ | ⟨y',t,e1,e2⟩
    · cases e1
    · cases e1
      refine ⟨.str names[i],H,I1,⟨t,e2⟩,⟨rfl,_,hn,rfl⟩,?_,fun b hb=>(hf b hb).1⟩
      rw [← vl]
      exact hit
  done := by
    intro X hP hw hK hc i pins s σ H E I hf Z hg
    subst hP hw hK
    obtain ⟨⟨kvs, e, hk⟩, hi⟩ := hg
    obtain ⟨e0,z,lo,vs,rel,dd⟩:=(show ObjOk X.prog X.w H s.heap a (.frz o (.dK kvs)) from I.hok a _ e)
    have kl := rel.length
    have nl : kvs.length = names.length := by
      have := congrArg List.length hk
      simpa using this
    obtain ⟨o', es', ep', r0, r1, r2, r3⟩ := dd
    rw [e0] at r0
    cases r0
    rw [ho] at r2
    cases r2
    have at':s.heap.DictAt (mixKind X.prog X.w) a vs ep:=⟨o,es,e0,r1,ho,r3⟩
    have vl : vs.length = names.length := by omega
    have Z:s.heap.IsKeyIter it a i vs.length ep:=by rw [vl]; exact Z
    refine wpAny_pyNext_dict_end (I.ok.hd hc) Z at' (List.getElem?_eq_none (by omega)) fun g kp=>⟨rfl,?_⟩
    exact inv_moved I (t':=s.toks) (fp:=[it]) (fun c o hc e=>kp c o (fun x=>hc (by simp [x])) e) hf
  self := fun _ _ _ _ _ Z h => wpAny_pyIter_keyiter Z h
def iKeys (te:TE):TI:=fun σ H R=>te σ H fun x H1=>∃ a kvs names,x = .ref a∧H1 a = some (.dK kvs)∧kvs.map (·.1) = names.map Sum.inr∧∀ o,R (Itd a o names) (upd H1 a (.frz o (.dK kvs)))
theorem pi_keys {tg l:Expr} {te:TE} (hl:PE X l te):PI X tg l (iKeys te):=by
  intro pins s σ H R I h
  refine thn (hl pins s σ H _ I h) fun v s1 ⟨x,H1,I1,r1,q1⟩=>?_
  obtain ⟨a, kvs, names, e, ea, hk, q⟩ := q1
  subst e
  cases r1
  obtain ⟨z, lo, vs, rel, dd⟩ := dk_of I1.hok ea
  have kl := rel.length
  have nl : kvs.length = names.length := by
    have := congrArg List.length hk
    simpa using this
  obtain ⟨o, es, ep, r0, r1, r2, r3⟩ := dd
  have I2 := inv_frz I1 ea r0
  have at':s1.heap.DictAt (mixKind X.prog X.w) a vs ep:=⟨o,es,r0,r1,r2,r3⟩
  refine wpAny_pyIter_dict lo at' ?_
  refine ⟨s1.heap.objs.size,[s1.heap.objs.size],_,_,_,rfl,I2.kept (t':=s1.toks) fun b o e=>Heap.get?_push_of_some _ e,turn_keys (a:=a) (names:=names) (ep:=ep) r2,⟨_,Heap.get?_push_size _ rfl,rfl,?_⟩,fun b hb=>?_,q o⟩
  · show Data.fields _ = Data.fields _
    rw [show vs.length = names.length by omega]
    rfl
  · have e : b = s1.heap.objs.size := by simpa using hb
    subst e
    exact I2.fpOk (Nat.le_refl _) (I2.hok.fresh (Nat.le_refl _))
end
end Lw
end
section
set_option Elab.async false
set_option linter.all false
set_option maxRecDepth 100000
set_option maxHeartbeats 4000000
namespace Lw
open PySem PySem.Spec PyProof.Rows L2
section
variable {X : Cx}
structure EAt (e it l:Addr) (n:Nat) (h:Heap):Prop where
  e : ∃ old, IsEnum h e it ((n : Nat) : Int) old
  a : h.IsListIter it l n
def Ite (K : PySem.W.Frag) (a : Addr) : It :=
  ⟨fun i H => ∃ xs x, SqL K H a xs ∧ xs[i]? = some x,
   fun i H v H'=>∃ t x,v = .ref t∧H t = none∧H' = upd H t (.tup [.int ((i:Nat):Int),x])∧∀ xs,SqL K H a xs→xs[i]? = some x,
   fun i H => ∃ xs, SqL K H a xs ∧ xs.length ≤ i⟩
theorem turn_enum {P:Program} {w:World} {K:PySem.W.Frag} {es:List Expr} {x1} {pos:Pos} {e it a:Addr} (hei:e ≠ it) :
    Turn P w K (.Tuple es x1 pos) (Ite K a) [e,it] e (EAt e it a) where
  mem := by simp
  obj := fun i h Z c hc => by
    have hc : c = e ∨ c = it := by simpa using hc
    rcases hc with rfl | rfl
    · obtain ⟨old, h⟩ := Z.e
      exact ⟨_, h, fun v e => by cases e⟩
    · obtain ⟨o, e, _, d⟩ := Z.a
      exact ⟨o, e, fun v z => by rw [d] at z; cases z⟩
  keep := fun i h h' Z k => by
    obtain ⟨old, he⟩ := Z.e
    obtain ⟨o, e1, r⟩ := Z.a
    exact ⟨⟨old,k e (by simp) _ he⟩,⟨o,k it (by simp) o e1,r⟩⟩
  item := by
    intro X hP hw hK hc i pins s σ H E I hf Z hg
    subst hP hw hK
    obtain ⟨xs, x, q1, e1⟩ := hg
    obtain ⟨us, r1, p1⟩ := sq_val (kd := true) I q1
    obtain ⟨u, hu, ru⟩ := r1.get e1
    obtain ⟨old, he⟩ := Z.e
    have hfr:H s.heap.objs.size = none:=I.hok.fresh (Nat.le_refl _)
    refine wpAny_pyNext_enum_item he Z.a (show s.heap.IsList a us.toArray from p1) (x:=u) (by simpa using hu) hei fun g heo hit ht hz kp=>⟨_,rfl,?_⟩
    have elt : e < s.heap.objs.size := Heap.lt_size he
    have ilt:it < s.heap.objs.size:=by obtain ⟨_,e,_⟩:=Z.a; exact Heap.lt_size e
    refine wpAny_letOwnedTupleGo_enum (s:={ s with heap:=g,toks:=s.toks + 1 }) heo fun g' z' s'=>?_
    have kp':∀ c o,c ≠ e→c ≠ it→s.heap.get? c = some o→g'.get? c = some o:=fun c o n1 n2 e=>s'.extBut _ _ n1 (kp c o n1 n2 e)
    have a5':g'.get? s.heap.objs.size = some { cls:=.type "tuple",data:=.seq #[.int i s.toks,u] }:=s'.extBut _ _ (Nat.ne_of_gt elt) ht
    have I1:Inv X pins σ (upd H s.heap.objs.size (.tup [.int i,x])) { s with heap:=g',toks:=s.toks + 1 }:=by
      refine inv_zipped I (fp:=[e,it]) (fun c o hc e=>kp' c o (fun x=>hc (by simp [x])) (fun x=>hc (by simp [x])) e) hf (Nat.le_refl _) ?_
      exact ⟨by show 2 ≤ sizeLine; decide,[.int i s.toks,u],.cons ⟨_,rfl⟩ (.cons ru .nil),⟨_,a5',rfl,_,rfl⟩⟩
    refine ⟨.ref s.heap.objs.size,_,I1,rfl,⟨_,x,rfl,hfr,rfl,fun zs hz=>by rw [sq_inj (kd:=true) I hz q1]; exact e1⟩,?_,?_⟩
    · obtain ⟨o, e2, r⟩ := hit
      exact ⟨⟨_,by have:=z'; simpa using this⟩,⟨o,s'.extBut _ _ (Ne.symm hei) e2,r⟩⟩
    · intro c hc
      have hlt : c < s.heap.objs.size := by
        have hc : c = e ∨ c = it := by simpa using hc
        rcases hc with rfl | rfl
        · exact elt
        · exact ilt
      rw [upd_ne (Nat.ne_of_lt hlt)]
      exact (hf c hc).1
  done := by
    intro X hP hw hK hc i pins s σ H E I hf Z hg
    subst hP hw hK
    obtain ⟨xs, q1, e⟩ := hg
    obtain ⟨us, r1, p1⟩ := sq_val (kd := true) I q1
    have l1 := r1.length
    obtain ⟨old, he⟩ := Z.e
    have hn : us.toArray[i]? = none := by
      simp
      omega
    refine wpAny_pyNext_enum_end (I.ok.hd hc) he Z.a (show s.heap.IsList a us.toArray from p1) hn fun g kp=>⟨rfl,?_⟩
    refine inv_moved I (fp:=[it]) (fun c o hc e=>kp c o (fun x=>hc (by simp [x])) e) ?_
    intro c hc
    exact hf c (by simp at hc ⊢; exact .inr hc)
  self := fun _ _ _ _ _ Z h => by
    obtain ⟨old, he⟩ := Z.e
    exact wpAny_pyIter_enum he h
def iEnum (K:PySem.W.Frag) (ta:TA):TI:=fun σ H R=>ta σ H fun vs H1=>match vs with
  | [.ref a] => (∃ xs, SqL K H1 a xs) ∧ R (Ite K a) H1
  | _ => False
theorem boot_enum:bootBuiltins "enumerate" = some (.type "enumerate"):=by decide +kernel
theorem pi_enum {a:Expr} {ta:TA} {p pos:Pos} {es:List Expr} {x1} {tp:Pos} (hg:Gl X "enumerate") (hm:X.mg "enumerate" = none) (ha:PA X [a] ta) (hs:starEach [a] X.env = [(false,eval a X.env)]:=by rfl) :
    PI X (.Tuple es x1 tp) (.Call (.Name "enumerate" p) [a] [] pos) (iEnum X.K ta):=by
  intro pins s σ H R I h
  refine Call_ (ld_blt I hg hm boot_enum (PyProof.Rows.callWith_type1 (thn (ha pos pins s σ H _ I h) fun us s1 ⟨vs,H1,I1,r1,q1⟩=>?_) hs rfl))
  match vs, q1 with
  | [.ref l], ⟨⟨xs, hx⟩, q⟩ =>
    obtain ⟨u, rfl, e1⟩ := vals1 r1
    cases (show u = Value.ref l from e1)
    obtain ⟨us', _, p1⟩ := sq_val (kd := true) I1 hx
    refine call_enumerate_list (show s1.heap.IsList l us'.toArray from p1) fun g Z Zi hz kp=>wpAny_pyIter_enum (s:={ s1 with heap:=g }) Z ?_
    have I2:Inv X pins σ H1 { s1 with heap:=g }:=I1.kept (t':=s1.toks) kp
    refine ⟨_,[s1.heap.objs.size + 1,s1.heap.objs.size],_,_,H1,rfl,I2,turn_enum (a:=l) (by show @Ne Nat _ _; omega),⟨⟨_,Z⟩,Zi⟩,fun c hc=>?_,q⟩
    have hc : @LE.le Nat _ s1.heap.objs.size c := by
      have hc:c = s1.heap.objs.size + 1 ∨ c = s1.heap.objs.size:=by simpa using hc
      rcases hc with h | h <;> rw [h] <;> first | exact Nat.le_refl _ | exact Nat.le_add_right _ _
    exact I1.fpOk hc (I1.hok.fresh hc)
theorem for_enum {K:PySem.W.Frag} {a:Addr} {xs:List V} {g:TG} {tb:TS} {D:Ends} {σ:L2.St} {H:Hp} (Pv:Nat→L2.St→Hp→Prop) (h0:Pv 0 σ H) (hl:∀ i σ H,Pv i σ H→SqL K H a xs)
    (hs:∀ i x t σ H,xs[i]? = some x→H t = none→Pv i σ H→g (.ref t) σ (upd H t (.tup [.int ((i:Nat):Int),x])) fun σ2 H2=>tb { D with nx:=Pv (i + 1),ct:=Pv (i + 1),bk:=D.nx } σ2 H2) (hd:∀ σ H,Pv xs.length σ H→D.nx σ H) :
    ∃ W:Nat→Nat→L2.St→Hp→Prop,(∃ m,W 0 m σ H)∧∀ i m σ H,W i m σ H →
      ((Ite K a).stop i H∧D.nx σ H) ∨ ((Ite K a).go i H∧∃ N:L2.St→Hp→Prop,(∀ σ' H',N σ' H'→∃ m',m' < m∧W (i + 1) m' σ' H')∧∀ x H',(Ite K a).yld i H x H'→g x σ H' fun σ2 H2=>tb { D with nx:=N,ct:=N,bk:=D.nx } σ2 H2):=by
  refine ⟨fun i m σ H=>m = xs.length - i∧i ≤ xs.length∧Pv i σ H,⟨xs.length,by simp,Nat.zero_le _,h0⟩,?_⟩
  rintro i m σ H ⟨rfl, hi, p⟩
  have q1 := hl i σ H p
  by_cases hlt : i < xs.length
  · have e1 : xs[i]? = some xs[i] := by simp [hlt]
    refine .inr ⟨⟨xs,_,q1,e1⟩,Pv (i + 1),fun σ' H' p'=>⟨xs.length - (i + 1),by omega,rfl,hlt,p'⟩,fun v H' y=>?_⟩
    obtain ⟨t, x, rfl, ht, rfl, y1⟩ := y
    exact hs i x t σ H (y1 xs q1) ht p
  · have e : i = xs.length := by omega
    subst e
    exact .inl ⟨⟨xs, q1, Nat.le_refl _⟩, hd σ H p⟩
end
end Lw
end
section
set_option Elab.async false
set_option linter.all false
set_option maxRecDepth 100000
set_option maxHeartbeats 4000000
namespace Lw
open PySem PySem.Spec PyProof.Rows L2
def FnV (K:PySem.W.Frag) (mg:Str→Option Value) (x:Str):Prop:=∃ f:Addr,mg x = some (.ref f)∧PySem.W.nsIn K mainGlobals x = some (some (.ref f))
def dFn (K:PySem.W.Frag) (x:Str):TE:=fun _ H Q=>∀ f:Addr,PySem.W.nsIn K mainGlobals x = some (some (.ref f))→Q (.ref f) H
section
variable {X : Cx}
theorem g_fn {x:Str} {p:Pos} (v:FnV X.K X.mg x) (hg:Gl X x:=by rfl) (hd:(x == ("__debug__":Str)) = false:=by decide):PE X (.Name x p) (dFn X.K x):=by
  intro pins s σ H Q I h
  obtain ⟨f, h1, h2⟩ := v
  exact ld_glob I hg h1 ⟨.ref f, H, I, rfl, h f h2⟩ hd
end
end Lw
end
section
set_option Elab.async false
set_option linter.all false
set_option maxRecDepth 100000
set_option maxHeartbeats 4000000
namespace Lw
open PySem PySem.Spec PyProof.Rows L2
def dCallV2 (K:PySem.W.Frag) (x y:Str) (te:TE) (sp sp':Sp) (t:TA):TE:=fun σ H Q=>te σ H fun v H1 =>
  (∃ f:Addr,v = .ref f∧PySem.W.nsIn K mainGlobals x = some (some (.ref f))∧t σ H1 fun vs H2=>sp vs H2 Q E0) ∨ (∃ f:Addr,v = .ref f∧PySem.W.nsIn K mainGlobals y = some (some (.ref f))∧t σ H1 fun vs H2=>sp' vs H2 Q E0)
section
variable {X : Cx}
theorem e_callV2 {x x' y:Str} {ps ps':List Str} {k k' k1:Nat} {sp sp':Sp} {p pos:Pos} {e:Expr} {es:List Expr} {t:TA} {te:TE} (C:Cal X.prog X.w X.K X.mg X.base x ps k sp) (C':Cal X.prog X.w X.K X.mg X.base x' ps' k1 sp') (v:FnV X.K X.mg x) (v':FnV X.K X.mg x') (hr:Room k' X.A) (hk:k ≤ k') (hk1:k1 ≤ k') (hn:PE X (.Name y p) te)
    (ha:PA X (e :: es) t) (he:starEach (e :: es) X.env = (false,eval e X.env) :: starEach es X.env:=by rfl) (hpl:(backTo pos (starEach es X.env)).any (·.1) = false:=by rfl) :
    PE X (.Call (.Name y p) (e :: es) [] pos) (dCallV2 X.K x x' te sp sp' t):=by
  intro pins s σ H Q I h
  refine wpAny_Call_Name_kw (thn (hn pins s σ H _ I h) fun u s1 ⟨w,H1,I1,r,hw⟩=>?_)
  rcases hw with ⟨f, ew, hf, q⟩ | ⟨f, ew, hf, q⟩
  · subst ew
    obtain ⟨f0, fd, h1, h2, h3, h4, _⟩ := C.ex
    obtain ⟨f1, g1, g2⟩ := v
    rw [hf] at g2
    cases g2
    rw [h1] at g1
    cases g1
    have eu : u = .ref f := r
    subst eu
    refine PySem.W.callWith_K (h₀:=X.base) I1.ok.mod.kin h2 (thn (ha pos pins s1 σ H1 _ I1 q) fun us s2 ⟨vs,H2,I2,r2,q2⟩=>⟨I2.kIn,?_⟩) he hpl
    exact run_fn (h4.mono hk) hr h3 .nil passX0 I2 r2 (by rw [List.append_nil]; exact q2)
  · subst ew
    obtain ⟨f0, fd, h1, h2, h3, h4, _⟩ := C'.ex
    obtain ⟨f1, g1, g2⟩ := v'
    rw [hf] at g2
    cases g2
    rw [h1] at g1
    cases g1
    have eu : u = .ref f := r
    subst eu
    refine PySem.W.callWith_K (h₀:=X.base) I1.ok.mod.kin h2 (thn (ha pos pins s1 σ H1 _ I1 q) fun us s2 ⟨vs,H2,I2,r2,q2⟩=>⟨I2.kIn,?_⟩) he hpl
    exact run_fn (h4.mono hk1) hr h3 .nil passX0 I2 r2 (by rw [List.append_nil]; exact q2)
end
end Lw
end
section
set_option Elab.async false
set_option linter.all false
set_option maxRecDepth 100000
set_option maxHeartbeats 4000000
namespace Lw
open PySem PySem.Spec PyProof.Rows L2
theorem comp_keysI {a:Addr} {o:Obj} {kvs:List (Key × V)} {names:List Str} {g:TG} {tc:TT} {te:TE} {k:Nat} {js:List Nat} {σ:L2.St} {H1:Hp} {Q:VK} (R:Hp→Str→V→Prop) (up:∀ m y H H',Kt H H'→R H m y→R H' m y) (c:Str→Bool)
    (hz:names.length ≤ 1000) (hx:H1 a = some (.frz o (.dK kvs))) (hk:kvs.map (·.1) = names.map Sum.inr)
    (hs:∀ x H2,x ∈ names→Same H1 H2→∀ (P:VK) (P':Hp→Prop),(c x = true→∀ y H3,Same H2 H3→R H3 x y→P y H3)→(c x = false→∀ H3,Same H2 H3→P' H3)→g (.str x) (List.replicate k none ++ capσ js σ) H2 fun σ2 H3=>σ2.drop k = capσ js σ∧tc σ2 H3 fun b H4=>Br b (te σ2 H4 P) (P' H4))
    (hq:∀ D H' ys,Same H1 H'→H1 D = none→H' D = some (.lst ys)→All2 (R H') (names.filter c) ys→Q (.ref D) H'):CGoalI (Itd a o names) g tc te k js σ H1 Q:=by
  unfold CGoalI
  intro D hD
  refine ⟨fun i m H=>m = names.length - i∧i ≤ names.length∧Same H1 H∧∃ ys,H D = some (.lst ys)∧All2 (R H) ((names.take i).filter c) ys,⟨names.length,by simp,Nat.zero_le _,same_upd hD,[],upd_same,.nil⟩,?_⟩
  rintro i m H ⟨rfl, hi, sm, ys, hH, ar⟩
  have sq := sm _ _ hx
  by_cases hlt : i < names.length
  · refine .inr ⟨⟨⟨kvs, sq, hk⟩, hlt⟩, fun v H' y => ?_⟩
    obtain ⟨rfl, x, hxi, rfl⟩ := y
    have yl : ys.length < sizeLine := by
      rw [← ar.len]
      refine Nat.lt_of_le_of_lt (List.length_filter_le _ _) ?_
      rw [List.length_take]
      exact Nat.lt_of_le_of_lt (Nat.min_le_left _ _) (Nat.lt_of_lt_of_le hlt (Nat.le_trans hz (by decide)))
    refine hs x _ (List.mem_of_getElem? hxi) sm _ _ (fun hc y H3 s3 r3=>⟨ys,s3 _ _ hH,yl,names.length - (i + 1),by omega,rfl,hlt,same_app' (sm.trans s3) hD,ys ++ [y],upd_same,?_⟩) fun hc H3 s3=>⟨names.length - (i + 1),by omega,rfl,hlt,sm.trans s3,ys,s3 _ _ hH,?_⟩
    · have kt:Kt H3 (upd H3 D (.lst (ys ++ [y]))):=kt_upd (s3 _ _ hH)
      rw [List.take_add_one, hxi, List.filter_append]
      have ef:(Option.toList (some x)).filter c = [x]:=by simp [hc]
      rw [ef]
      exact (ar.imp fun v y r=>up v y _ _ ((kt_of s3).trans kt) r).snoc (up _ _ _ _ kt r3)
    · rw [List.take_add_one, hxi, List.filter_append]
      have ef:(Option.toList (some x)).filter c = []:=by simp [hc]
      rw [ef, List.append_nil]
      exact ar.imp fun v y r => up v y _ _ (kt_of s3) r
  · have e : i = names.length := by omega
    subst e
    rw [List.take_length] at ar
    exact .inl ⟨⟨⟨kvs,sq,hk⟩,Nat.le_refl _⟩,hq D _ ys sm hD hH ar⟩
end Lw
end
section
set_option Elab.async false
set_option linter.all false
set_option maxRecDepth 100000
set_option maxHeartbeats 4000000
namespace Lw
open PySem PySem.Spec PyProof.Rows L2
section
open PySem.SeqAt
variable {X : Cx}
end
end Lw
end
section
set_option Elab.async false
set_option linter.all false
set_option maxRecDepth 100000
set_option maxHeartbeats 4000000
set_option autoImplicit false
namespace Lw
open PySem PySem.Spec PyProof.Rows L2
section
variable {X:Cx} {pins:List (Addr × Obj)} {σ:L2.St} {H:Hp} {s:Shared}
def tTryA (K:PySem.W.Frag) (ta:TA) (sp:Sp) (D':Addr) (n i:Nat) (tu:TS):TS:=fun D σ H=>ta σ H fun vs H1=>sp vs H1 (fun v H2=>D.nx (σ.set i (some v)) H2) fun cls d H2=>∃ C,cls = .ref C∧ExcC K C∧PySem.W.mroIn K C (.ref D') = some true ∧
  ∀ a H3,Same H2 H3→H3 a = some (.ext (ExcAt a C d))→tu { nx:=fun σ' H'=>D.nx (σ'.set n none) H',rt:=D.rt,bk:=fun σ' H'=>D.bk (σ'.set n none) H',ct:=fun σ' H'=>D.ct (σ'.set n none) H' } (σ.set n (some (.ref a))) H3
theorem ps_tryA {f x:Str} {ps:List Str} {k k':Nat} {sp:Sp} {p cpos apos pos yp hpos pos':Pos} {e:Expr} {es:List Expr} {t:TA} {D':Addr} {n i:Nat} {y nm:Str} {b₀:Stmt} {suite:List Stmt} {tu:TS} (dx:DefCx X)
    (C:Cal X.prog X.w X.K X.mg X.base f ps k sp) (hr:Room k' X.A) (hk:k ≤ k') (hg:Gl X f) (ha:PA X.nox (e :: es) t) (hi:X.N[i]? = some x) (hx:X.env.scope.names.lookup x = some .local)
    (hy:Gl X y) (hD:X.mg y = some (.ref D')) (cD:Cat X.K D') (nd:X.N.Nodup) (hn:X.N[n]? = some nm) (hl:X.env.scope.names.lookup nm = some .local) (hu:∀ v,PSs (cxM X v) (b₀ :: suite) tu)
    (hdb:(f == ("__debug__":Str)) = false:=by decide) (hdb2:(y == ("__debug__":Str)) = false:=by decide) (he:starEach (e :: es) X.env = (false,eval e X.env) :: starEach es X.env:=by rfl) (hpl:(backTo cpos (starEach es X.env)).any (·.1) = false:=by rfl)
    (hs:swapsWith (.Call (.Name f p) (e :: es) [] cpos) (some (.Name x pos')) apos.line X.env = pure false:=by rfl) :
    PS X (.Try [.Assign [.Name x pos'] (.Call (.Name f p) (e :: es) [] cpos) apos] [.ExceptHandler (some (.Name y yp)) (some nm) (b₀ :: suite) hpos] [] [] pos) (tTryA X.K t sp D' n i tu):=by
  obtain ⟨fa, fd, h1, h2, h3, h4, _⟩ := C.ex
  intro pins s σ H D I h
  refine wpAny_Try_except (wpAny_execs_cons (wpAny_Assign_Name ?_ hs))
  refine wpAny_Call_Name_kw (ld_glob I hg h1 ?_ hdb)
  refine PySem.W.callWith_K (h₀:=X.base) I.ok.mod.kin h2 (wpAny_mono (ha cpos pins s σ H _ (I.wish _) h) (fun us s1 ⟨vs,H1,I1,r,q⟩=>?_) fun _ _ z=>z.elim) he hpl
  have I1 := I1.unwish
  refine ⟨I1.kIn, ?_⟩
  have hus:us.length = ps.length:=by rw [← r.length]; exact h4.len _ _ _ _ q
  have hb:=h3 s1 us I1.kIn (by rw [List.append_nil]; exact hus)
  rw [List.append_nil] at hb
  refine wpAny_call (codeAny_mono ((h4.mono hk).run X.A X.stack s1 H1 ⟨us,[]⟩ us vs _ _ hr I1.env0 hb r q) fun res s' hq=>?_)
  cases res with
  | ok fl =>
    cases fl with
    | ret u =>
      obtain ⟨v, H2, I2, rv, q2⟩ := I1.after hq
      exact store_ok I2 nd hi (.inl hx) rv (fun s2 I3=>wpAny_execs_nil (wpAny_execs_nil ⟨_,H2,I3,q2⟩)) (.inr hx)
    | next => exact False.elim hq
    | brk => exact False.elim hq
    | cont => exact False.elim hq
  | error er =>
    obtain ⟨a,cls,d,H2,B,a0,rfl,F,C',rfl,c,hm,q2⟩:=hq
    exact handle_ok dx I1 F hy hD cD hm nd hn hl hu hdb2 fun H3=>q2 a H3
end
end Lw
end
section
set_option Elab.async false
set_option linter.all false
set_option maxRecDepth 100000
set_option maxHeartbeats 4000000
set_option autoImplicit false
namespace Lw
open PySem PySem.Spec PyProof.Rows L2
structure DfnM (K:PySem.W.Frag) (Cs Ds:List Addr) (m qual:Str) (st:Stmt) (ps:List Str):Prop where
  ex:∃ (f:Addr) (fd:FuncData),Fun K m qual st f fd∧(∀ C ∈ Cs,Meth K C m f)∧(∀ C ∈ Ds,PySem.W.findCls K (.ref C) (.type "type") m = some (.val (.ref f)))∧Binds K fd ps []
structure CalM (P:Program) (w:World) (K:PySem.W.Frag) (mg:Str→Option Value) (base:Heap) (Cs Ds:List Addr) (m:Str) (ps:List Str) (k:Nat) (sp:Sp):Prop where
  ex:∃ (f:Addr) (fd:FuncData),(∀ C ∈ Cs,Meth K C m f)∧(∀ C ∈ Ds,PySem.W.findCls K (.ref C) (.type "type") m = some (.val (.ref f)))∧PySem.W.keepIn K (.ref f) = true∧Binds K fd ps []∧FnOk P w K mg base (CXE P w) k f fd ps sp
section
variable {P:Program} {w:World} {K:PySem.W.Frag} {mg:Str→Option Value} {base:Heap} {Cs Ds:List Addr}
theorem DfnM.calX {m qual:Str} {st:Stmt} {N ps:List Str} {k:Nat} {sp:Sp} (d:DfnM K Cs Ds m qual st ps) (S:FnScope N ps (defScope st)) (len:∀ vs H Q E,sp vs H Q E→vs.length = ps.length)
    (hbody:∀ (f:Addr) (cdv:Value) (A:Around) (outer:List Env) (s:Shared) (H:Hp) (vs:List V) (Q:VK) (E:XK),Room k (A.deeper (envOfC qual (defScope st) s.heap.objs.size f cdv))→sp vs H Q E →
      ∃ t,PSs (cxOf (CXE P w) P w K mg base N qual (defScope st) f cdv A outer s H E) (defBody st) t∧t { nx:=fun _ H'=>Q .non H',rt:=Q } (start N vs) H):CalM P w K mg base Cs Ds m ps (k + 1) sp:=by
  obtain ⟨f, fd, F, hm, hd, hb⟩ := d.ex
  obtain ⟨oc,od,kV,doc,pm,an,cdv,ct,osl,rfl,lk,hcd⟩:=F.ex
  exact ⟨f,_,hm,hd,F.kp,hb,fn_of lk hcd S len fun A outer s H vs Q E hr hsp=>hbody f cdv A outer s H vs Q E hr hsp⟩
theorem DfnM.cal {m qual:Str} {st:Stmt} {N ps:List Str} {k:Nat} {sp:Sp} (d:DfnM K Cs Ds m qual st ps) (S:FnScope N ps (defScope st)) (len:∀ vs H Q E,sp vs H Q E→vs.length = ps.length)
    (hbody:∀ (f:Addr) (cdv:Value) (A:Around) (outer:List Env) (s:Shared) (H:Hp) (vs:List V) (Q:VK) (E:XK),Room k (A.deeper (envOfC qual (defScope st) s.heap.objs.size f cdv))→sp vs H Q E →
      ∃ t,PSs (cxOf (CXE P w) P w K mg base N qual (defScope st) f cdv A outer s H E).nox (defBody st) t∧t { nx:=fun _ H'=>Q .non H',rt:=Q } (start N vs) H):CalM P w K mg base Cs Ds m ps (k + 1) sp :=
  d.calX S len fun f cdv A outer s H vs Q E hr hsp => by
    obtain ⟨t,h,q⟩:=hbody f cdv A outer s H vs Q E hr hsp
    exact ⟨t, h.nox, q⟩
end
structure MkC (K : PySem.W.Frag) (C : Addr) : Prop where
  makes : PySem.W.makesIn K C = true
  kp : PySem.W.keepIn K (.ref C) = true
structure RdC (K : PySem.W.Frag) (C : Addr) : Prop where
  reads : PySem.W.readsIn K C (.type "type") = true
  ga:PySem.W.specialIn K (.ref C) "__getattribute__" = some (some (.builtin "type.__getattribute__"))
section
variable {X : Cx} {pos p : Pos} {Cs Ds : List Addr} {E : XK}
structure IsC (K : PySem.W.Frag) (C : Addr) : Prop where
  ha:PySem.W.findIn K (.ref C) "__class__" = some (some (.builtin "object.__class__"))
  hn:PySem.W.specialIn K (.builtin "object.__class__") "__get__" = some (some (.builtin "getset_descriptor.__get__"))
  ht:PySem.W.takesIn K (.builtin "object.__class__") = some true
  hm : PySem.W.mroIn K C (.type "object") = some true
theorem ac_nil {p:Addr→Prop}:∀ C ∈ ([]:List Addr),p C:=fun _ h=>by cases h
theorem ac_cons {p:Addr→Prop} {c:Addr} {l:List Addr} (h:p c) (r:∀ C ∈ l,p C):∀ C ∈ c :: l,p C:=fun C hC=>by
  rcases List.mem_cons.mp hC with rfl | hC
  · exact h
  · exact r C hC
end
end Lw
end
section
set_option Elab.async false
set_option linter.all false
set_option maxRecDepth 100000
set_option maxHeartbeats 4000000
set_option autoImplicit false
namespace Lw
open PySem PySem.Spec PyProof.Rows L2
abbrev cxT (X:Cx) (σ0:L2.St) (p0:List (Addr × Obj)) (Eh:XK):Cx:={ X with pn:=X.pn ++ p0,xe:=fun e s'=>∃ H1 s1,Inv X p0 σ0 H1 s1∧CXE X.prog X.w X.stack H1 s1 Eh e s' }
section
variable {X:Cx} {p0 pins:List (Addr × Obj)} {σ0 σ:L2.St} {H:Hp} {s:Shared} {Eh:XK}
theorem inv_tryIn (I:Inv X p0 σ H s):Inv (cxT X σ0 p0 Eh) [] σ H s :=
  ⟨⟨I.ok.mod,I.ok.kind,I.ok.glob,I.ok.blt,I.ok.above,I.ok.inj,I.ok.has,I.ok.cab,I.ok.hd,I.ok.frames,I.ok.stk,I.ok.exf,I.ok.bs,I.ok.bsz,I.ok.noex,I.ok.exfs,I.ok.funs,I.ok.frf⟩,I.os,I.bare,I.base,I.loc,I.cell,I.free,I.freeC,fun p hp=>I.pin p (by
    have hp : p ∈ (X.pn ++ p0) ++ [] := hp
    rwa [List.append_nil] at hp), I.hok, I.len⟩
theorem inv_tryOut (I:Inv (cxT X σ0 p0 Eh) pins σ H s):Inv X p0 σ H s :=
  ⟨⟨I.ok.mod,I.ok.kind,I.ok.glob,I.ok.blt,I.ok.above,I.ok.inj,I.ok.has,I.ok.cab,I.ok.hd,I.ok.frames,I.ok.stk,I.ok.exf,I.ok.bs,I.ok.bsz,I.ok.noex,I.ok.exfs,I.ok.funs,I.ok.frf⟩,I.os,I.bare,I.base,I.loc,I.cell,I.free,I.freeC,fun p hp=>I.pin p (List.mem_append_left _ hp),I.hok,I.len⟩
end
def hnd (K:PySem.W.Frag) (D':Addr) (n:Nat) (tu:TS) (D:Ends) (σ:L2.St):XK:=fun cls d H2=>∃ C,cls = .ref C∧ExcC K C∧PySem.W.mroIn K C (.ref D') = some true ∧
  ∀ a H3,Same H2 H3→H3 a = some (.ext (ExcAt a C d))→tu { nx:=fun σ' H'=>D.nx (σ'.set n none) H',rt:=D.rt,bk:=fun σ' H'=>D.bk (σ'.set n none) H',ct:=fun σ' H'=>D.ct (σ'.set n none) H' } (σ.set n (some (.ref a))) H3
section
variable {X:Cx} {p0:List (Addr × Obj)} {σ0:L2.St} {Eh:XK} {pos p:Pos}
theorem run_try {k:Nat} {f:Addr} {fd:FuncData} {ps:List Str} {sp:Sp} {pins:List (Addr × Obj)} {H:Hp} {s:Shared} {Q:VK} {us:List Value} {vs:List V} (F:FnOk X.prog X.w X.K X.mg X.base (CXE X.prog X.w) k f fd ps sp) (hr:Room k X.A) (hb:Binds X.K fd ps [])
    (I:Inv (cxT X σ0 p0 Eh) pins σ0 H s) (r:Vals vs us) (h:sp vs H Q Eh):wpAny (model X.prog X.w) X.A (call (.ref f) us) (EP (cxT X σ0 p0 Eh) pins σ0 Q) (cxT X σ0 p0 Eh).xe s:=by
  have hl : (us ++ []).length = ps.length := by
    rw [List.append_nil, ← r.length]
    exact F.len _ _ _ _ h
  have hb' := hb s us I.kIn hl
  rw [List.append_nil] at hb'
  refine wpAny_call (codeAny_mono (F.run X.A X.stack s H ⟨us,[]⟩ us vs Q Eh hr I.env0 hb' r h) fun res s' hq=>?_)
  cases res with
  | error er => exact ⟨H, s, inv_tryOut I, hq⟩
  | ok fl =>
    cases fl with
    | ret u => exact I.after hq
    | next => exact False.elim hq
    | brk => exact False.elim hq
    | cont => exact False.elim hq
def dCallT (sp:Sp) (σ0:L2.St) (E:XK) (t:TA):TE:=fun σ H Q=>t σ H fun vs H1=>σ = σ0∧sp vs H1 Q E
theorem e_callT {x:Str} {ps:List Str} {k k':Nat} {sp:Sp} {e:Expr} {es:List Expr} {t:TA} (C:Cal X.prog X.w X.K X.mg X.base x ps k sp) (hr:Room k' X.A) (hk:k ≤ k') (hg:Gl X x)
    (ha:PA (cxT X σ0 p0 Eh) (e :: es) t) (hdb:(x == ("__debug__":Str)) = false:=by decide) (he:starEach (e :: es) X.env = (false,eval e X.env) :: starEach es X.env:=by rfl) (hpl:(backTo pos (starEach es X.env)).any (·.1) = false:=by rfl) :
    PE (cxT X σ0 p0 Eh) (.Call (.Name x p) (e :: es) [] pos) (dCallT sp σ0 Eh t):=by
  obtain ⟨f, fd, h1, h2, h3, h4, _⟩ := C.ex
  intro pins s σ H Q I h
  refine wpAny_Call_Name_kw (ld_glob I hg h1 ?_ hdb)
  refine PySem.W.callWith_K (h₀:=X.base) I.ok.mod.kin h2 (thn (ha pos pins s σ H _ I h) fun us s1 ⟨vs,H1,I1,r,eσ,q⟩=>⟨I1.kIn,?_⟩) he hpl
  subst eσ
  exact run_try (h4.mono hk) hr h3 I1 r q
end
section
variable {P:Program} {w:World} {K:PySem.W.Frag} {mg:Str→Option Value} {base:Heap} {N:List Str} {qual:Str} {scope:Scope} {f:Addr} {cd:Value} {A:Around} {outer:List Env} {s₀:Shared} {H₀:Hp} {E:XK} {pos:Pos}
end
end Lw
end
section
set_option Elab.async false
set_option linter.all false
set_option maxRecDepth 100000
set_option maxHeartbeats 4000000
set_option autoImplicit false
namespace Lw
open PySem PySem.Spec PyProof.Rows L2
def overV : List Value → Bool
  | .ref _ :: r => overV r
  | l => l == vB
theorem refuse_v (self:Value):∀ {l:List Value},overV l = true→refuseLoop self "__setattr__" l = pure ()
  | [], e => by cases e
  | v :: r, e => by
    cases v with
    | ref c => rw [refuseLoop_ref]; exact refuse_v self e
    | _=>rw [eq_of_beq (show (_ == vB) = true from e)]; exact PySem.F.store_ValueError.passes self
section
variable {prog:Program} {w:World} {A:Around} {K:PySem.W.Frag} {x C:Addr} {s:Shared} {R:Result→Shared→Prop}
theorem osa_exc {ox:Obj} {od:Option Obj} {name:Str} {tk:Tok} {v:Value} (X:K.In s.heap) (I:PySem.W.InstAt s.heap x ox C od) (mo:PySem.W.mroIn K C (.type "object") = some true)
    (hp:(PySem.W.clsIn K C).any (fun cd=>overV cd.mro) = true) (ht:PySem.W.findIn K (.ref C) name = some none)
    (h:wpAny (model prog w) A.in1 (Builtin.ObjectAttr.storeInOwnDict (.ref x) (.ref C) (.str name tk) name v false)
      (fun fin s'=>match fin with | .done f=>R (.ok f) s' | .again c'=>c'.quiet = true∧codeAny (model prog w) A c' R s') (fun e s'=>R (.error e) s') s) :
    codeAny (model prog w) A (.call (.builtin "object.__setattr__") ⟨[.ref x,.str name tk,v],[]⟩) R s:=by
  have SF := PySem.F.store_object
  obtain ⟨cd, hc, ho⟩ := PySem.W.any_some hp
  have sub:PySem.W.Looks (model prog w) s.heap (isInstance (.ref x) (.type "object")) true:=I.type.andThen (PySem.W.looks_mroIn X mo)
  refine codeAny_call_builtin SF.slot.plain SF.entry (@PySem.W.check_slot (model prog w) _ _ s "object.__setattr__" "object" "__setattr__" (.ref x) [.str name tk,v] [] _ SF.kind SF.split sub (SF.args (.ref x) (.str name tk) v) ?_)
  have hm:PySem.W.Looks (model prog w) s.heap (mroOf (.ref C)) cd.mro:=(PySem.W.looks_clsIn X hc).andThen .now
  rw [PySem.W.osa_eq, refuse_eq]
  refine wpAny_bind (wpAny_bind (I.type.here (wpAny_bind (hm.here ?_))))
  rw [refuse_v _ ho]
  refine wpAny_pure (wpAny_bind (I.type.here (wpAny_bind ((PySem.W.looks_findIn X ht).here (wpAny_bind (PySem.W.Looks.here (PySem.W.Looks.now (a:=none)) ?_))))))
  exact h
end
structure ExS (K : PySem.W.Frag) (C : Addr) : Prop where
  sa:PySem.W.findIn K (.ref C) "__setattr__" = some (some (.builtin "object.__setattr__"))
  po:(PySem.W.clsIn K C).any (fun cd=>overV cd.mro) = true
  hd : PySem.W.hasDictIn K C = true
section
variable {X:Cx} {pins:List (Addr × Obj)} {σ:L2.St} {H:Hp} {s:Shared} {A:Around} {E:Value→Shared→Prop} {a C:Addr} {f:Str}
theorem setattrX {b:Bool} {y:V} {u:Value} {Q:Unit→Shared→Prop} (I:Inv X pins σ H s) (e:H a = some (.ext (ExcAt a C none b))) (c:ExcC X.K C) (cs:ExS X.K C) (n:PySem.W.findIn X.K (.ref C) f = some none) (ry:RelV y u)
    (h:∀ dx s',H dx = none→dx ≠ a→Inv X pins σ (upd (upd H dx (.xd [(f,y)])) a (.ext (ExcAt a C (some dx) b))) s'→Q () s'):wpAny (model X.prog X.w) A (setAttr (.ref a) f u) Q E s:=by
  obtain ⟨⟨o,vs,hx,hc,hda,hdn,h0,h9⟩,_,_⟩:=(show ObjOk X.prog X.w H s.heap a (.ext (ExcAt a C none b)) from I.hok a _ e)
  have J:PySem.W.InstAt s.heap a o C none:=⟨hx,hc,by unfold PySem.W.notCls; rw [hda],by rw [hdn]; trivial⟩
  obtain ⟨cd, hcd, hd'⟩ := PySem.W.any_some cs.hd
  refine PySem.W.set_plain I.kIn J cs.sa (osa_exc (s:={ s with toks:=s.toks + 1 }) I.kIn J c.mo cs.po n ?_)
  obtain ⟨oc, od, oda, osl⟩ := o
  dsimp only at hc hda hdn
  subst hc hda hdn
  refine wpAny_bind (wpAny_pure (wpAny_bind (wpAny_bind (wpAny_loadPart hx (wpAny_bind (PySem.W.Looks.here (s:={ s with toks:=s.toks + 1 }) (PySem.W.looks_clsIn I.kIn hcd) ?_))))))
  rw [hd']
  have hxs:a ≠ s.heap.objs.size:=Nat.ne_of_lt (Heap.lt_size hx)
  have hx1:(s.heap.push { cls:=.type "dict",data:=.dict #[] }).get? a = some ⟨.ref C,none,.fields vs,osl⟩:=Heap.get?_push_of_some _ hx
  refine wpAny_bind (wpAny_alloc' (wpAny_bind (wpAny_update' hx1 (wpAny_pure ?_))))
  have hd0:((s.heap.push { cls:=.type "dict",data:=.dict #[] }).update a fun o=>{ cls:=o.cls,dict:=some s.heap.objs.size,data:=o.data,slots:=o.slots }).get? s.heap.objs.size = some { cls:=.type "dict",data:=.dict #[] } :=
    (Heap.get?_update_other _ _ hxs).trans (Heap.get?_push_size _ rfl)
  have hx2:((s.heap.push { cls:=.type "dict",data:=.dict #[] }).update a fun o=>{ cls:=o.cls,dict:=some s.heap.objs.size,data:=o.data,slots:=o.slots }).get? a = some ⟨.ref C,some s.heap.objs.size,.fields vs,osl⟩ :=
    Heap.get?_update_self _ hx1 rfl
  refine wpAny_bind (wpAny_pure (wpAny_bind ?_))
  refine wpAny_nsSet1 (m:=fun _=>none) (Heap.Ns1.of_empty ⟨_,#[],_,hd0,rfl,fun e he=>absurd he (by simp),fun _=>rfl⟩) fun h' hn2 hs2=>?_
  obtain ⟨oD,esD,epD,hoD,hdD,hcD⟩:=hn2.count (PySem.Within.cons f u PySem.Within.nil)
  refine wpAny_bind (wpAny_lookBehind hoD (by rw [hdD]; exact pastItsLine_dict (Nat.le_trans hcD (by rw [List.length_cons,List.length_nil,sizeLine_eq]; omega))) ?_)
  refine wpAny_pure (h s.heap.objs.size _ (I.hok.fresh (Nat.le_refl _)) (Ne.symm hxs) ?_)
  have frD:oD.isFreed = false:=(Heap.get?_some_iff.mp hoD).2
  have I1:=I.laid (a:=s.heap.objs.size) (o:=.xd [(f,y)]) (h':=s.heap.push oD) (t':=s.toks) (fun b u q=>Heap.get?_push_of_some _ q) (Nat.le_refl _) ⟨_,hn2.at fun o q=>by
    rw [hoD] at q
    cases q
    exact Heap.get?_push_size _ frD, fun g => by
    show RelO (List.lookup g [(f,y)]) (if g = f then some u else none)
    by_cases q : g = f
    · subst q
      rw [if_pos rfl, List.lookup_cons_self]
      exact ry
    · rw [if_neg q,List.lookup_cons,(beq_eq_false_iff_ne.mpr q:(g == f) = false)]
      trivial⟩
  have e1:upd H s.heap.objs.size (.xd [(f,y)]) a = some (.ext (ExcAt a C none b)):=by rw [upd_ne hxs]; exact e
  have hxE:h'.get? a = some ⟨.ref C,some s.heap.objs.size,.fields vs,osl⟩:=(hs2.2 a hxs).trans hx2
  refine I1.write (x:=a) (e:=a) (t':=_) (by rw [e1]; trivial) (.inl rfl) (fun b' u' hb q=>?_) ⟨_,hxE⟩ ⟨⟨_,vs,hxE,rfl,rfl,rfl,h0,h9⟩,⟨_,hxE⟩,fun h1 h2 ⟨o,vs,z1,z2,z3,z4⟩ k=>⟨o,vs,k o z1,z2,z3,z4⟩⟩
  rcases Heap.get?_push_cases q with ⟨rfl, rfl⟩ | q
  · exact hoD
  · have hbs:b' ≠ s.heap.objs.size:=Nat.ne_of_lt (Heap.lt_size q)
    exact (hs2.2 b' hbs).trans ((Heap.get?_update_other _ _ (Ne.symm hb)).trans (Heap.get?_push_of_some _ q))
theorem getattrX {dx:Addr} {fs:List (Str × V)} {v:V} {Q:Value→Shared→Prop} (I:Inv X pins σ H s) (e:H a = some (.ext (ExcAt a C (some dx)))) (ed:H dx = some (.xd fs)) (c:ExcC X.K C) (hd:PySem.W.hasDictIn X.K C = true)
    (n:PySem.W.findIn X.K (.ref C) f = some none) (l:fs.lookup f = some v) (h:∀ u s',Inv X pins σ H s'→RelV v u→Q u s'):wpAny (model X.prog X.w) A (getAttr (.ref a) f true) Q E s:=by
  have p:ExcAt a C (some dx) false s.heap:=(show ObjOk X.prog X.w H s.heap a (.ext (ExcAt a C (some dx))) from I.hok a _ e).1
  obtain ⟨mA,hns,r⟩:=(show ObjOk X.prog X.w H s.heap dx (.xd fs) from I.hok dx _ ed)
  obtain ⟨o, vs, hx, hc, hda, hdn, _⟩ := id p
  obtain ⟨od, ho, hl⟩ := lookIn_ns hns
  obtain ⟨u,hu,ru⟩:=RelO.some_of (v:=v) (o:=mA f) (by rw [← l]; exact r f)
  have J:PySem.W.InstAt s.heap a o C (some od):=⟨hx,hc,by unfold PySem.W.notCls; rw [hda],by rw [hdn]; exact ho⟩
  have l1 := exc_ty (M := model X.prog X.w) p
  have l2:=PySem.W.looks_findIn (M:=model X.prog X.w) I.kIn c.ga
  have l3:=PySem.W.looks_findIn (M:=model X.prog X.w) I.kIn c.gn
  have l4:=PySem.W.looks_find (M:=model X.prog X.w) I.kIn J (PySem.W.findObj_own hd n rfl (by rw [hl,hu]))
  have b1 := PySem.F.attr_ValueError.ga.bind (.ref a)
  have q := h u _ (I.tok (s.toks + 1)) ru
  have kI := I.kIn
  obtain ⟨hh, g, d, t, os⟩ := s
  unfold getAttr getAttrBy
  refine wpAny_bind (wpAny_mkText (wpAny_holding (wpAny_bind (l1.at (wpAny_bind (l2.at ?_))))))
  show wpAny _ _ (getAttrByItsOwn _ _ _ _ _ _) _ _ _
  unfold getAttrByItsOwn
  refine wpAny_bind (l3.at ?_)
  refine wpAny_bind (wpAny_attempt (wpAny_holding ?_))
  show wpAny _ _ (boundAndCalled _ _ _) _ _ _
  unfold boundAndCalled
  rw [b1]
  refine wpAny_bind (wpAny_pure ?_)
  refine wpAny_call (codeAny_call_builtin PySem.F.attr_ValueError.ga.plain F.entry_bexc_ga ?_)
  refine exc_chk kI p c ?_
  unfold Builtin.«object.__getattribute__»
  repeat (first | with_reducible refine l1.at ?_ | with_reducible refine l4.at ?_ | wp_step)
  show wpAny _ _ (handedOut u) _ _ _
  rw [PySem.W.handedOut_of (handed_of ru)]
  exact wpAny_pure q
def dFldX (K:PySem.W.Frag) (ta:TE) (f:Str):TE:=fun σ H Q=>ta σ H fun x H1=>∃ a C dx fs v,x = .ref a∧H1 a = some (.ext (ExcAt a C (some dx)))∧H1 dx = some (.xd fs)∧ExcC K C∧ExS K C∧PySem.W.findIn K (.ref C) f = some none∧fs.lookup f = some v∧Q v H1
theorem e_fldX {e:Expr} {pos:Pos} {ta:TE} (he:PE X e ta) (hb:attributeBase e f X.env (eval e X.env) = eval e X.env:=by rfl):PE X (.Attribute e f pos) (dFldX X.K ta f):=by
  intro pins s σ H Q I h
  refine attr_of hb (thn (he pins s σ H _ I h) fun u s1 ⟨x,H1,I1,rx,a,C,dx,fs,v,ex,ea,ed,c,cs,n,l,q⟩=>?_)
  subst ex
  obtain rfl : u = Value.ref a := rx
  exact getattrX I1 ea ed c cs.hd n l fun u' s2 I2 ru=>⟨v,H1,I2,ru,q⟩
def sFldX (K:PySem.W.Frag) (ta tv:TE) (f:Str):TS:=fun D σ H=>tv σ H fun y H1=>ta σ H1 fun x H2=>∃ a C b,x = .ref a∧H2 a = some (.ext (ExcAt a C none b))∧ExcC K C∧ExS K C∧PySem.W.findIn K (.ref C) f = some none ∧
  ∀ dx,H2 dx = none→dx ≠ a→D.nx σ (upd (upd H2 dx (.xd [(f,y)])) a (.ext (ExcAt a C (some dx) b)))
theorem ps_fldX {o value:Expr} {pos pos':Pos} {ta tv:TE} (ha:PE X o ta) (hv:PE X value tv) (hs:swapsWith value (some (.Attribute o f pos')) pos.line X.env = pure false:=by rfl):PS X (.Assign [.Attribute o f pos'] value pos) (sFldX X.K ta tv f):=by
  intro pins s σ H D I h
  refine plainObj_wpAny_Assign_Attribute (thn (hv pins s σ H _ I h) fun u s1 ⟨y,H1,I1,ry,q⟩=>thn (ha pins s1 σ H1 _ I1 q) fun ov s2 ⟨x,H2,I2,rx,a,C,b,ex,ea,c,cs,n,q2⟩=>?_) hs
  subst ex
  obtain rfl : ov = Value.ref a := rx
  exact setattrX I2 ea c cs n ry fun dx s3 hdx ne I3=>⟨σ,_,I3,q2 dx hdx ne⟩
end
def excInitIn (K:PySem.W.Frag) (C f:Addr):Bool:=match K.lookup C with
  | some ⟨.type "type",_,.cls cd,sl⟩=>(match cd.mro,sl.toList with
    | .ref C' :: bm,[_,_,_,_,some (.builtin n),_]=>C' == C && n == "ValueError.__new__" && !cd.hasDel && PySem.W.tailIn K vB bm && PySem.W.nsOkIn K cd.ns && PySem.W.nsIn K cd.ns "__init__" == some (some (.ref f))
    | _, _ => false)
  | _ => false
theorem ns_val {K:PySem.W.Frag} {h:Heap} {N:Addr} {m:Str→Option Value} {n:Str} {v:Value} (X:K.In h) (G:h.Ns N m) (e:PySem.W.nsIn K N n = some (some v)):m n = some v:=by
  obtain ⟨o, es, ep, ho, hd, _, hf⟩ := G
  unfold PySem.W.nsIn at e
  split at e
  · rename_i c d es' n' sl q
    have z := X _ _ q
    rw [ho] at z
    cases z
    cases hd
    rw [← hf]
    unfold nsFind findBy
    rw [← Array.find?_toList]
    cases q2 : es.toList.find? (fun x => x.key.isStr n) with
    | none=>rw [q2] at e; dsimp only at e; split at e <;> cases e
    | some en => rw [q2] at e; cases e; rfl
  · cases e
theorem own_clsI {K:PySem.W.Frag} {h:Heap} {C f:Addr} (X:K.In h) (q:excInitIn K C f = true) :
    ∃ bm ns nm qn bs hdct sn sub ab col dd k0 k1 k2 k3 k5 mN,h.get? C = some (excClassObj nm qn C ns bs bm hdct sn sub ab col dd k0 k1 k2 k3 k5 "ValueError.__new__")∧h.Ns ns mN∧mN "__init__" = some (.ref f)∧OwnTail h vB bm:=by
  unfold excInitIn at q
  split at q
  · rename_i d0 cd sl lk
    split at q
    · rename_i C' bm a0 a1 a2 a3 n a5 hm hs
      simp only [Bool.and_eq_true,beq_iff_eq,Bool.not_eq_true'] at q
      obtain ⟨⟨⟨⟨⟨e1, e2⟩, hdel⟩, ht⟩, hok⟩, hni⟩ := q
      subst e1 e2
      obtain ⟨nm,bs,mro,ns,qn,hd,sn,sub,ab,col,del⟩:=cd
      dsimp only at hm hdel hok hni
      subst hm hdel
      have e:sl = #[a0,a1,a2,a3,some (.builtin "ValueError.__new__"),a5]:=by
        obtain ⟨l⟩ := sl
        simp only at hs
        rw [hs]
      subst e
      have N0 : h.isNs ns = true := PySem.W.isNs_of_in X hok
      exact ⟨bm,ns,nm,qn,bs,hd,sn,sub,ab,col,d0,a0,a1,a2,a3,a5,_,X _ _ lk,.of_isNs N0,ns_val X (.of_isNs N0) hni,PySem.W.tail_of_in X ht⟩
    · cases q
  · cases q
section
variable {prog:Program} {w:World} {A:Around} {E:Value→Shared→Prop} {K:PySem.W.Frag} {s:Shared} {C f:Addr}
theorem exc_tcall {h:Heap} {g:Array GenState} {d:Drawn} {t:Nat} {os:OsState} {rest:List Value} {Q:Fin→Shared→Prop} (X:K.In h) (q:excInitIn K C f = true) (hf:PySem.W.typeIn K (.ref f) = some (.type "function"))
    (hq:∀ h' e,Heap.MadeExcOf h h' e (.ref C) rest→codeAny (model prog w) A (.call (.ref f) ⟨.ref e :: rest,[]⟩)
      (fun r s'=>match r with | .ok (.ret u)=>u = .none∧Q (.done (.ret (.ref e))) s' | .ok _=>False | .error v=>E v s') ⟨h',g,d,t,os⟩) (hrest:rest.length ≤ sizeLine) :
    wpAny (model prog w) A (Builtin.«type.__call__» ⟨.ref C :: rest,[]⟩) Q E ⟨h,g,d,t,os⟩:=by
  obtain ⟨bm,N,nm,qn,bs,hdct,sn,sub,ab,col,dd,k0,k1,k2,k3,k5,mN,hC,hn,hi,T⟩:=own_clsI X q
  have FB := PySem.F.excBase_ValueError
  repeat (first | with_reducible refine wpAny_loadPart_at hC ?_ | with_reducible refine wpAny_madeBy_exc hC ?_ | wp_step)
  refine codeAny_call_builtin_code (Code.quiet_builtin _ FB.quiet) (wpAny_check_new_subT FB T hC ?_)
  refine codeAny_exc_new_subT FB T hC ?_ hrest
  show wpAny _ _ _ _ _ _
  have kp:∀ b o,h.get? b = some o→((h.push { cls:=.type "tuple",data:=.seq rest.toArray }).push { cls:=.ref C,data:=.fields #[.ref h.objs.size,.none,.none,.none,.bool false,.none] }).get? b = some o :=
    fun b o e=>Heap.get?_push_of_some _ (Heap.get?_push_of_some _ e)
  have hget:((h.push { cls:=.type "tuple",data:=.seq rest.toArray }).push { cls:=.ref C,data:=.fields #[.ref h.objs.size,.none,.none,.none,.bool false,.none] }).get? (h.objs.size + 1) = some
      { cls:=.ref C,data:=.fields #[.ref h.objs.size,.none,.none,.none,.bool false,.none] }:=by heap_get
  have hC1 := kp _ _ hC
  have hn1:((h.push { cls:=.type "tuple",data:=.seq rest.toArray }).push { cls:=.ref C,data:=.fields #[.ref h.objs.size,.none,.none,.none,.bool false,.none] }).Ns N mN :=
    let ⟨o, es, ep, e, r⟩ := hn; ⟨o, es, ep, kp _ _ e, r⟩
  have hcC:(Value.ref C :: bm).contains (.ref C) = true:=by simp
  have T1 := T.keeps kp
  have X1 := X.keeps kp
  unfold isInstance
  repeat (first | with_reducible refine wpAny_loadPart_at hget ?_ | (with_reducible refine wpAny_isSubtype_exc hC1 ?_; rw [hcC]) | wp_step)
  show wpAny _ _ (typeLookup (.ref C) _) _ _ _
  refine wpAny_typeLookup_tail hC1 hn1 T1 FB.mroIs FB.init.lookup ?_
  rw [hi]
  refine wpAny_holding (wpAny_bind ((PySem.W.bind_fn X1 _ hf).here (wpAny_bind (wpAny_call (codeAny_mono (hq _ (h.objs.size + 1) ⟨kp,Heap.get?_none_of_le (Nat.le_succ _),h.objs.size,hget,Heap.get?_none_of_le (Nat.le_refl _),Heap.get?_push_of_some _ (Heap.get?_push_at rfl rfl)⟩) fun r s' z=>?_)))))
  rcases r with e | (v | _ | _ | _) <;> first | exact z | exact z.elim | skip
  obtain ⟨rfl, z⟩ := z
  wp_walk
  exact z
theorem exc_made {rest:List Value} {Q:Value→Shared→Prop} (X:K.In s.heap) (q:excInitIn K C f = true) (hf:PySem.W.typeIn K (.ref f) = some (.type "function"))
    (hq:∀ h' e,Heap.MadeExcOf s.heap h' e (.ref C) rest→codeAny (model prog w) (A.under (.builtin "type.__call__" ⟨.ref C :: rest,[]⟩)) (.call (.ref f) ⟨.ref e :: rest,[]⟩)
      (fun r s'=>match r with | .ok (.ret u)=>u = .none∧Q (.ref e) s' | .ok _=>False | .error v=>E v s') { s with heap:=h' }) (hrest:rest.length ≤ sizeLine) :
    wpAny (model prog w) A (call (.ref C) rest) Q E s := by
  obtain ⟨h, g, d, t, os⟩ := s
  obtain ⟨bm,N,nm,qn,bs,hdct,sn,sub,ab,col,dd,k0,k1,k2,k3,k5,mN,hC,hn,hi,T⟩:=own_clsI X q
  have f1 := tc_lookup
  have f2 := tc_bind (.ref C)
  have hT:(⟨h,g,d,t,os⟩:Shared).TypeIs (.ref C) "type":=⟨_,hC,rfl⟩
  refine wpAny_call (codeAny_of_tree ?_)
  show wpAny _ _ (callAny (.ref C) _) _ _ _
  repeat (any_goals (first | assumption | with_reducible refine wpAny_loadPart_at hC ?_ | wp_step))
  refine ⟨rfl, ?_⟩
  exact codeAny_call_builtin_at (Code.quiet_builtin _ (by decide +kernel)) entry_typeCall (wpAny_check_type_call_sub hC (exc_tcall X q hf hq hrest))
end
section
variable {X:Cx} {pins:List (Addr × Obj)} {σ:L2.St} {H:Hp} {s:Shared} {a C f:Addr}
theorem new_none (I:Inv X pins σ H s) (n:s.heap.get? a = none):H a = none:=by
  cases q : H a with
  | none => rfl
  | some u =>
    obtain ⟨o, z⟩ := obj_some (I.hok a u q)
    rw [n] at z
    cases z
theorem inv_madeX {h':Heap} {vs:List Value} (I:Inv X pins σ H s) (hx:Heap.MadeExcOf s.heap h' a (.ref C) vs):Inv X pins σ (upd H a (.ext (ExcAt a C none true))) { s with heap:=h' }:=by
  have n0 := new_none I hx.new
  have sm:Same H (upd H a (.ext (ExcAt a C none true))):=fun b o e=>by
    rw [upd_ne (ne_of_none e n0)]
    exact e
  obtain ⟨t, ht, _⟩ := hx.there
  refine I.call' (s':={ s with heap:=h' }) (ch:=[]) rfl ⟨fun b o e _ _ _=>hx.keeps b o e,fun b o e _ _ _=>⟨o.slots,hx.keeps b o e⟩,fun b o e n _=>?_,fun b o e _=>⟨o,hx.keeps b o e⟩,fun b xs e=>sm b _ e,fun b o u e=>sm b _ e,fun b ps e=>⟨#[],by rw [sm b _ e]; simp⟩⟩ (fun b u e=>?_) I.bare fun b hb=>absurd hb (by simp)
  · have hb : b ≠ a := by
      rintro rfl
      rw [hx.new] at e
      cases e
    rw [upd_ne hb]
    exact n
  · by_cases hb : b = a
    · subst hb
      rw [upd_same] at e
      cases e
      exact ⟨⟨_,_,ht,rfl,rfl,rfl,⟨_,rfl⟩,fun _=>rfl⟩,⟨_,ht⟩,fun h1 h2 ⟨o,vs,z1,z2,z3,z4⟩ k=>⟨o,vs,k o z1,z2,z3,z4⟩⟩
    · rw [upd_ne hb] at e
      exact (I.hok b u e).stay (fun c v _ q=>hx.keeps c v q) (fun c z=>sm c _ z) fun c xs z=>sm c _ z
theorem run_makeX {CX:CXT} {k:Nat} {fd:FuncData} {ps:List Str} {sp:Sp} {E:XK} {Q:VK} {us:List Value} {vs:List V} (ini:excInitIn X.K C f = true) (fn:PySem.W.isFn X.K (.ref f) = true) (F:FnOk X.prog X.w X.K X.mg X.base CX k f fd ps sp) (hr:Room (k + 1) X.A) (hb:Binds X.K fd ps [])
    (hx:Passes CX X E) (hz:ps.length ≤ sizeLine) (I:Inv X pins σ H s) (r:Vals vs us)
    (D:DefCx X) (h:∀ x,H x = none→X.s₀.heap.get? x = none→sp (.ref x :: vs) (upd H x (.ext (ExcAt x C none true))) (fun v H2=>v = .non∧Q (.ref x) H2) E) :
    wpAny (model X.prog X.w) X.A (call (.ref C) us) (EP X pins σ Q) X.xe s:=by
  have lv : us.length ≤ sizeLine := by
    have e:=F.len _ _ _ _ (h s.heap.objs.size (I.hok.fresh (Nat.le_refl _)) (fresh_of D I (Heap.get?_none_of_le (Nat.le_refl _))))
    have e2 := r.length
    simp only [List.length_cons] at e
    omega
  refine exc_made I.kIn ini (beq_iff_eq.mp fn) (fun h' x hm=>?_) lv
  have hq := h x (new_none I hm.new) (fresh_of D I hm.new)
  have I2 := inv_madeX I hm
  have r2:Vals (V.ref x :: vs) (Value.ref x :: us):=.cons rfl r
  have hl:(Value.ref x :: us ++ []).length = ps.length:=by
    have e := r2.length
    rw [F.len _ _ _ _ hq] at e
    rw [List.append_nil]
    exact e.symm
  have hb':=hb { s with heap:=h' } (Value.ref x :: us) I2.kIn hl
  rw [List.append_nil] at hb'
  refine codeAny_mono (F.run _ X.stack _ _ ⟨Value.ref x :: us,[]⟩ (Value.ref x :: us) _ _ E (hr.make C us []) (I2.env0.make C us []) hb' r2 hq) fun r s' hq'=>?_
  cases r with
  | error e => exact hx pins σ _ _ e s' I2 hq'
  | ok fl =>
    cases fl with
    | ret u =>
      obtain ⟨v, H', I3, rv, ev, q3⟩ := I2.after hq'
      subst ev
      exact ⟨rv, ⟨V.ref x, H', I3, rfl, q3⟩⟩
    | next => exact False.elim hq'
    | brk => exact False.elim hq'
    | cont => exact False.elim hq'
def excInitAny (K:PySem.W.Frag) (C:Addr):Bool:=match PySem.W.findIn K (.ref C) "__init__" with
  | some (some (.ref f)) => excInitIn K C f
  | _ => false
structure ExI (K : PySem.W.Frag) (C : Addr) : Prop where
  ini : excInitAny K C = true
  kp : PySem.W.keepIn K (.ref C) = true
theorem ExI.of {K:PySem.W.Frag} {C f:Addr} (e:ExI K C) (h:PySem.W.findIn K (.ref C) "__init__" = some (some (.ref f))):excInitIn K C f = true:=by
  have z := e.ini
  unfold excInitAny at z
  rw [h] at z
  exact z
theorem ExI.ex {K:PySem.W.Frag} {C:Addr} (e:ExI K C):∃ f,excInitIn K C f = true:=by
  have z := e.ini
  unfold excInitAny at z
  split at z
  · exact ⟨_, z⟩
  · cases z
def dMakeX (h0:Heap) (C:Addr) (sp:Sp) (E:XK) (t:TA):TE:=fun σ H Q=>t σ H fun vs H1=>∀ x,H1 x = none→h0.get? x = none→sp (.ref x :: vs) (upd H1 x (.ext (ExcAt x C none true))) (fun v H2=>v = .non∧Q (.ref x) H2) E
theorem e_makeX {Cs Ds:List Addr} {x:Str} {ps:List Str} {k k':Nat} {sp:Sp} {e:Expr} {es:List Expr} {t:TA} {pos p:Pos} (c:CalM X.prog X.w X.K X.mg X.base Cs Ds "__init__" ps k sp) (hC:C ∈ Cs) (M:ExI X.K C) (hr:Room k' X.A) (hk:k + 1 ≤ k') (hg:Gl X x) (hm:X.mg x = some (.ref C))
    (ha:PA X (e :: es) t) (D:DefCx X) (hz:ps.length ≤ sizeLine) (hdb:(x == ("__debug__":Str)) = false:=by decide) (he:starEach (e :: es) X.env = (false,eval e X.env) :: starEach es X.env:=by rfl) (hpl:(backTo pos (starEach es X.env)).any (·.1) = false:=by rfl) :
    PE X (.Call (.Name x p) (e :: es) [] pos) (dMakeX X.s₀.heap C sp E0 t):=by
  obtain ⟨f, fd, h1, _, _, h3, h4⟩ := c.ex
  intro pins s σ H Q I h
  refine wpAny_Call_Name_kw (ld_glob I hg hm ?_ hdb)
  refine PySem.W.callWith_K (h₀:=X.base) I.ok.mod.kin M.kp (thn (ha pos pins s σ H _ I h) fun us s1 ⟨vs,H1,I1,r,q⟩=>⟨I1.kIn,?_⟩) he hpl
  exact run_makeX (M.of (h1 C hC).at_) (h1 C hC).fn h4 (hr.mono hk) h3 passX0 hz I1 r D q
def dInitX (K:PySem.W.Frag) (t:TA):TE:=fun σ H Q=>t σ H fun vs H1=>∃ a C f d b tx,vs = [.ref a,.str tx]∧H1 a = some (.ext (ExcAt a C d b))∧excInitIn K C f = true∧Q .non H1
theorem e_initX {x:Str} {D:Addr} {e:Expr} {es:List Expr} {t:TA} {pos p apos:Pos} {pl:Sem Bool} (R:RdC X.K D) (hv:PySem.W.findCls X.K (.ref D) (.type "type") "__init__" = some (.val (.builtin "ValueError.__init__"))) (hg:Gl X x) (hm:X.mg x = some (.ref D))
    (ha:PA X (e :: es) t) (hdb:(x == ("__debug__":Str)) = false:=by decide) (hst:starEach (e :: es) X.env = (false,eval e X.env) :: starEach es X.env:=by rfl) (hpl:(backTo pos (starEach es X.env)).any (·.1) = false:=by rfl)
    (ht:eval (.Call (.Attribute (.Name x p) "__init__" apos) (e :: es) [] pos) X.env = (do
      let ov ← eval (.Name x p) X.env
      standAt apos.atName
      let (f,first) ← holding [ov] (getMethod ov "__init__" pl)
      callWith pos f first (backTo pos (starEach (e :: es) X.env)) (backToKw pos (keywordEach [] X.env))):=by rfl) :
    PE X (.Call (.Attribute (.Name x p) "__init__" apos) (e :: es) [] pos) (dInitX X.K t):=by
  intro pins s σ H Q I h
  refine PySem.W.methodCall_KW (pl:=pl) (ld_glob I hg hm ?_ hdb) ht
  refine PySem.W.method_cls I.kIn R.ga (PySem.W.cls_value I.kIn R.reads hv rfl ?_)
  have I0 := I.tok (s.toks + 1)
  refine PyProof.Rows.callWith_builtin1 (thn (ha pos pins _ σ H _ I0 h) fun us s1 ⟨vs,H1,I1,r,a,C,f,d,b,tx,ev,ea,ini,q⟩=>?_) hst hpl
  subst ev
  obtain ⟨u1, u2, rfl, r1, r2⟩ := vals2 r
  obtain rfl : u1 = Value.ref a := r1
  obtain ⟨tk,rfl⟩:=(show ∃ tk,u2 = Value.str tx tk from r2)
  obtain ⟨⟨o,vs,hx,hc,hda,hdn,⟨v0,h0⟩,h9⟩,_,_⟩:=(show ObjOk X.prog X.w H1 s1.heap a (.ext (ExcAt a C d b)) from I1.hok a _ ea)
  obtain ⟨bm,N,nm,qn,bs,hdct,sn,sub,ab,col,dd,k0,k1,k2,k3,k5,mN,hC,hn,hi,T⟩:=own_clsI I1.kIn ini
  have FB := PySem.F.excBase_ValueError
  obtain ⟨h, g, dr, tt, os⟩ := s1
  obtain ⟨oc, od, oda, osl⟩ := o
  dsimp only at hc hda hdn
  subst hc hda hdn
  have h1:=Heap.get?_push_of_some (h:=h) { cls:=.type "tuple",data:=.seq #[.str tx tk] } hx
  refine wpAny_call (codeAny_call_builtin FB.init.plain FB.initEntry (wpAny_check_init_subT FB T hC hx rfl ?_))
  have hsz:0 < vs.size:=(Array.getElem?_eq_some_iff.mp h0).1
  have eH : upd H1 a (.ext (ExcAt a C od b)) = H1 := by
    funext b'
    by_cases z : b' = a
    · subst z
      rw [upd_same, ea]
    · rw [upd_ne z]
  have hxN:=Heap.get?_update_self (Obj.mapFields (·.setIfInBounds 0 (Value.ref h.objs.size))) h1 (Obj.isFreed_of_fields (Obj.data_mapFields rfl _))
  have fin:∀ h',h' = (h.push { cls:=.type "tuple",data:=.seq #[.str tx tk] }).update a (Obj.mapFields (·.setIfInBounds 0 (Value.ref h.objs.size)))→EP X pins σ Q .none ⟨h',g,dr,tt,os⟩:=fun h' e'=>by
    subst e'
    refine ⟨.non, H1, ?_, rfl, q⟩
    have z:=I1.write (x:=a) (e:=a) (o:=.ext (ExcAt a C od b)) (t':=tt) (by rw [ea]; trivial) (.inl rfl) (fun b' u' hb q=>(Heap.get?_update_other _ _ (Ne.symm hb)).trans (Heap.get?_push_of_some _ q)) ⟨_,hxN⟩
      ⟨⟨_,_,hxN,rfl,rfl,rfl,⟨_,by rw [Array.getElem?_setIfInBounds_self_of_lt hsz]⟩,fun z=>by rw [Array.getElem?_setIfInBounds_ne (by decide)]; exact h9 z⟩,⟨_,hxN⟩,fun h1 h2 ⟨o,vs,z1,z2,z3,z4⟩ k=>⟨o,vs,k o z1,z2,z3,z4⟩⟩
    rw [eH] at z
    exact z
  unfold Builtin.«BaseException.__init__»
  dsimp only
  rw [if_neg (by simp)]
  unfold newTuple Builtin.BaseException.bexcPut
  refine wpAny_bind (wpAny_newObj_type (wpAny_bind (wpAny_bind (wpAny_field h1 rfl h0 (wpAny_bind (wpAny_setField h1 rfl hsz ?_))))) (by size_fits))
  cases v0 <;> first | exact wpAny_pure (wpAny_pure (fin _ rfl)) | exact wpAny_letGo (wpAny_pure (fin _ rfl))
end
def del (H:Hp) (a:Addr):Hp:=fun b=>if b = a then none else H b
theorem del_same {H:Hp} {a:Addr}:del H a a = none:=by unfold del; rw [if_pos rfl]
theorem del_ne {H:Hp} {a b:Addr} (h:b ≠ a):del H a b = H b:=by unfold del; rw [if_neg h]
section
variable {M:Model} {A:Around} {E:Value→Shared→Prop} {K:PySem.W.Frag} {env:Env}
theorem raise_stmt {s:Shared} {x:Sem Value} {Q:Flow→Shared→Prop} (hh:A.handled = none)
    (h:wpAny M A x (fun v s1=>∃ a C d,v = .ref a∧ExcAt a C d true s1.heap∧K.In s1.heap∧ExcC K C∧E (.ref a) s1) E s):wpAny M A (raiseStmt env (some x) none) Q E s:=by
  unfold raiseStmt
  refine wpAny_bind (wpAny_mono h (fun v s1 ⟨a,C,d,ev,p,X,c,q⟩=>?_) fun _ _ z=>z)
  subst ev
  obtain ⟨o, vs, hx, hc, hda, hdn, ⟨v0, h0⟩, h9⟩ := id p
  have h1 := h9 rfl
  obtain ⟨oc, od, oda, osl⟩ := o
  dsimp only at hc hda hdn
  subst hc hda hdn
  obtain ⟨dd, cd, sl, lk⟩ := exc_lk c.nw
  have eC := X _ _ lk
  have l1 := PySem.W.looks_mroIn (M := M) X c.mb
  obtain ⟨hp, g, dr, tk, os⟩ := s1
  repeat (first | with_reducible refine l1.at ?_ | with_reducible refine wpAny_loadPart_at hx ?_ | with_reducible refine wpAny_loadPart_at eC ?_ | wp_step)
  rw [h1]
  refine wpAny_pure ?_
  rw [if_neg (by decide)]
  exact wpAny_pure (wpAny_raiseNew_none hh q)
end
section
variable {X:Cx} {pins:List (Addr × Obj)} {σ:L2.St} {H:Hp} {s:Shared} {M:Model} {E:Value→Shared→Prop} {Q:Unit→Shared→Prop}
theorem fly_madeX {a C:Addr} {d:Option Addr} (D:DefCx X) (I:Inv X pins σ H s) (e:H a = some (.ext (ExcAt a C d true))) (n0:X.s₀.heap.get? a = none)
    (k:∀ s'' B a0,Fly X.prog X.w X.outer X.H₀ X.s₀ (del H a) a (.ref C) d B a0 s''→Q () s''):wpAny M X.A (leaving X.env (.ref a)) Q E s:=by
  obtain ⟨⟨o,vs,hx,hc,hda,hdn,⟨v0,h0⟩,h9⟩,_,_⟩:=(show ObjOk X.prog X.w H s.heap a (.ext (ExcAt a C d true)) from I.hok a _ e)
  have hfr:X.A.frames = some (X.env :: X.outer):=by rw [I.ok.frames,D.stk]
  have hex:∀ b:Addr,b ∉ X.ex:=fun b=>by rw [D.ex]; simp
  have hB:∀ b o,s.heap.get? b = some o→b ≠ a→b ∉ frs X.stack→(PySem.W.hideAll s.heap (a :: frs X.stack)).get? b = some o:=fun b o q na nm=>PySem.W.hideAll_get _ q fun z=>(List.mem_cons.mp z).elim na nm
  have hl:s.heap.FunFrames (PySem.W.hideAll s.heap (a :: frs X.stack)) (X.env :: X.outer):=by
    have z:=PySem.W.funFrames_hide (as:=a :: frs X.stack) I.stack fun env he b hb=>List.mem_cons_of_mem _ (List.mem_filterMap.mpr ⟨env,he,hb⟩)
    rw [D.stk] at z ⊢
    exact z
  have tn:∀ b,H b ≠ none→b ∉ frs X.stack:=fun b n z=>n (I.stkFree b z)
  have na:∀ b,H b = none→b ≠ a:=fun b n z=>by rw [z,e] at n; cases n
  have D0 : DctAt a d s.heap := ⟨o, hx, hdn⟩
  refine wpAny_mono (mild_any mild_leaving D0 (wpAny_leaving_firstW (base:=PySem.W.hideAll s.heap (a :: frs X.stack)) (Q:=fun _ s5=>∃ h5,s5 = { s with heap:=h5 }∧Heap.LeftW (PySem.W.hideAll s.heap (a :: frs X.stack)) (X.env :: X.outer) a o.cls v0 s.heap h5)
    hfr hl D.fr hx (fun b o q=>PySem.W.of_hideAll _ q) (PySem.W.hideAll_none _ (List.mem_cons_self ..)) hda (h9 rfl) h0 fun h5 q=>⟨h5,rfl,q⟩)) (fun _ s5 ⟨⟨h5,e5,Sy,⟨_,_,f2⟩,f3,u5⟩,d5⟩=>?_) fun _ _ z=>z
  subst e5
  rw [hc] at f3
  have dn:∀ b u,H b = some u→u ≠ .ext (ExcAt a C d true)→del H a b = some u:=fun b u q nu=>by
    rw [del_ne (fun z=>by rw [z,e] at q; exact nu (Option.some.inj q).symm)]
    exact q
  have un5 : Un (frs X.stack) [] H (del H a) s.heap h5 := by
    have sl:∀ b o,s.heap.get? b = some o→b ∈ frs X.stack→∃ sl,h5.get? b = some { o with slots:=sl }:=fun b o e hb=>by
      obtain ⟨_, o', e', nf⟩ := I.stack.mem hb
      rw [e] at e'
      cases e'
      exact u5 b o e nf
    refine ⟨fun b o e n hb _=>Sy b o (hB b o e (na b n) hb),fun b o e n hb _=>sl b o e hb,fun b o _ n _=>?_,fun b o e _=>?_,fun b xs q=>dn b _ q (fun z=>nomatch z),fun b o u q=>dn b _ q (fun z=>nomatch z),fun b ps q=>⟨#[],by rw [dn b _ q (fun z=>nomatch z)]; simp⟩⟩
    · rw [del_ne (na b n)]
      exact n
    · by_cases hb : b ∈ frs X.stack
      · obtain ⟨z, e1⟩ := sl b o e hb
        exact ⟨_, e1⟩
      · by_cases hz : b = a
        · obtain ⟨oe, _, _, _, _, q, _⟩ := f3
          exact ⟨oe, hz ▸ q⟩
        · exact ⟨o, Sy b o (hB b o e hz hb)⟩
  have hok5 : HOk X.prog X.w (del H a) h5 := fun b u q => by
    have hb:b ≠ a:=fun z=>by rw [z,del_same] at q; cases q
    rw [del_ne hb] at q
    refine (I.hok b u q).stay (fun c v hc q'=>Sy c v (hB c v q' ?_ (tn c ?_))) (fun c z=>dn c _ z fun z=>nomatch z) fun c xs z=>dn c _ z fun z=>nomatch z
    · rcases hc with z | z
      · rw [z]; exact hb
      · intro y; rw [y, e] at z; cases z
    · rcases hc with z | z
      · rw [z, q]; simp
      · rw [z]; simp
  have I5:Inv X pins σ (del H a) { s with heap:=h5 }:=I.call' (s':={ s with heap:=h5 }) (ch:=[]) rfl un5 hok5 I.bare fun b hb=>absurd hb (by simp)
  refine k _ (PySem.W.hideAll s.heap (a :: frs X.stack)) v0 ⟨I5.os,I5.bare,?_,hok5,n0,del_same,⟨Sy,PySem.W.hideAll_none _ (List.mem_cons_self ..),f2,f3⟩,fun b o n q=>?_,fun b o e' n hb=>?_,fun b o e' hb=>?_,d5⟩
  · have u := I5.base
    rw [D.ex] at u
    exact u
  · have hb:b ≠ a:=fun z=>by rw [z,del_same] at n; exact n rfl
    rw [del_ne hb] at n
    cases z : H b with
    | none => exact absurd z n
    | some u =>
      obtain ⟨o1, e1⟩ := obj_some (I.hok b u z)
      have e2 := hB b o1 e1 hb (tn b n)
      have e3 := Sy b o1 e2
      have q' : h5.get? b = some o := q
      rw [q'] at e3
      cases e3
      exact e2
  · exact hB b o (I.base.keep b o e' n hb (hex b)) (fun z=>by rw [z,n0] at e'; cases e') (not_stk I e' hb)
  · obtain ⟨o1, e1⟩ := I.base.there b o e' (hex b)
    exact ⟨o1,hB b o1 e1 (fun z=>by rw [z,n0] at e'; cases e') (not_stk I e' hb)⟩
end
def tRaiseE (K:PySem.W.Frag) (h0:Heap) (E:XK) (te:TE):TS:=fun D σ H=>te σ H fun x H1=>∃ a C d,x = .ref a∧H1 a = some (.ext (ExcAt a C d true))∧ExcC K C∧h0.get? a = none∧E (.ref C) d (del H1 a)
section
variable {P:Program} {w:World} {K:PySem.W.Frag} {mg:Str→Option Value} {base:Heap} {N:List Str} {qual:Str} {scope:Scope} {f:Addr} {cd:Value} {A:Around} {outer:List Env} {s₀:Shared} {H₀:Hp} {E:XK}
theorem ps_raiseE {e:Expr} {pos:Pos} {te:TE} (he:PE (cxOf (CXE P w) P w K mg base N qual scope f cd A outer s₀ H₀ E).nox e te) :
    PS (cxOf (CXE P w) P w K mg base N qual scope f cd A outer s₀ H₀ E) (.Raise (some e) none pos) (tRaiseE K s₀.heap E te):=by
  intro pins s σ H D I h
  rw [arm_exec_Raise]
  refine wpAny_bind (wpAny_standAt (raise_stmt (K:=K) (I.ok.hd rfl) (wpAny_bind (wpAny_mono (he pins s σ H _ (I.wish _) h) (fun u s1 ⟨x,H1,I1,rx,a,C,d,ex,ea,c,n0,q⟩=>wpAny_bind (wpAny_standAt (wpAny_pure ?_))) fun _ _ z=>z.elim))))
  subst ex
  obtain rfl : u = Value.ref a := rx
  have I1 := I1.unwish
  refine ⟨a,C,d,rfl,(show ObjOk P w H1 s1.heap a (.ext (ExcAt a C d true)) from I1.hok a _ ea).1,I1.kIn,c,?_⟩
  exact fly_madeX (X:=cxOf (CXE P w) P w K mg base N qual scope f cd A outer s₀ H₀ E) ⟨rfl,rfl,rfl⟩ I1 ea n0 fun s'' B a0 F'=>⟨a,.ref C,d,del H1 a,B,a0,rfl,F',q⟩
end
end Lw
end
section
set_option Elab.async false
set_option linter.all false
set_option maxRecDepth 100000
set_option maxHeartbeats 4000000
set_option autoImplicit false
namespace Lw
open PySem PySem.Spec PyProof.Rows L2
theorem exc_miss {M:Model} {A:Around} {E:Value→Shared→Prop} {K:PySem.W.Frag} {a C D:Addr} {s:Shared} {Q:Bool→Shared→Prop} (X:K.In s.heap) (p:∃ o,s.heap.get? a = some o∧o.cls = .ref C) (c:Cat K D)
    (hm:PySem.W.mroIn K C (.ref D) = some false) (hq:Q false s):wpAny M A (excMatches (.ref a) (.ref D)) Q E s:=by
  obtain ⟨h, g, d, t, os⟩ := s
  obtain ⟨o, e, ec⟩ := p
  obtain ⟨dd, cd, sl, lk⟩ := c.lk
  have eD := X _ _ lk
  have f := tc_notTuple
  have l1 := PySem.W.looks_mroIn (M := M) X c.mb
  have l2 := PySem.W.looks_mroIn (M := M) X hm
  unfold excMatches
  repeat (first | with_reducible refine l1.at ?_ | with_reducible refine l2.at ?_ | (with_reducible refine wpAny_loadPart_at e ?_; rw [ec]) | with_reducible refine wpAny_loadPart_at eD ?_ | wp_step)
  exact hq
section
variable {X:Cx} {pins:List (Addr × Obj)} {σ:L2.St} {H H':Hp} {s s':Shared}
theorem suite_ok {E:Value→Shared→Prop} {a C:Addr} {d:Option Addr} {B h5:Heap} {a0:Value} {nm:Str} {hpos:Pos} {b₀:Stmt} {suite:List Stmt} {n:Nat} {tu:TS} {D:Ends} (dx:DefCx X) (I:Inv X pins σ H s) (F:Fly X.prog X.w X.stack H s H' a (.ref C) d B a0 s')
    (f5:Heap.FlyingW B (X.env :: X.outer) a (.ref C) a0 h5) (u5:s'.heap.UpToSlots h5) (d5:DctAt a d h5) (nd:X.N.Nodup) (hn:X.N[n]? = some nm) (hl:X.env.scope.names.lookup nm = some .local) (hu:∀ v,PSs (cxM X v) (b₀ :: suite) tu)
    (q:∀ H3,Same H' H3→H3 a = some (.ext (ExcAt a C d))→tu { nx:=fun σ' H'=>D.nx (σ'.set n none) H',rt:=D.rt,bk:=fun σ' H'=>D.bk (σ'.set n none) H',ct:=fun σ' H'=>D.ct (σ'.set n none) H' } (σ.set n (some (.ref a))) H3) :
    codeAny (model X.prog X.w) (X.A.mark (some (.ref a))) (.handlers (.ref a) [.ExceptHandler none (some nm) (b₀ :: suite) hpos] X.env) (fun r s2=>match r with
      | .ok f=>wpAny (model X.prog X.w) X.A (do bindName X.env nm .none; unbindBehindTheSuite X.env nm hpos) (fun _ s3=>SP X pins D f s3) E s2
      | .error x=>cameBackBy (model X.prog X.w) X.A X.env E x s2) { s' with heap:=h5 }:=by
  refine codeAny_handlers_suite_as ?_
  refine wpAny_mono (mild_any mild_setFlight d5 (lands_againW (Q:=fun _ s6=>∃ h6,s6 = { s' with heap:=h6 }∧Heap.FlyingW B (X.env :: X.outer) a (.ref C) a0 h6∧h5.UpToSlots h6) f5 fun h6 f6 u6=>⟨h6,rfl,f6,u6⟩)) (fun _ s6 ⟨⟨h6,e6,f6,u6⟩,d6⟩=>?_) fun _ _ z=>z
  subst e6
  obtain ⟨oe, ws, oe1, oe2, oe3, oe5⟩ := f6.first
  have oe4 : oe.dict = d := by
    obtain ⟨o6, z1, z2⟩ := d6
    have z3 : some o6 = some oe := z1.symm.trans oe1
    cases z3
    exact z2
  have up:∀ b,b ≠ a→upd H' a (.ext (ExcAt a C d)) b = H' b:=fun b hb=>upd_ne hb
  have sm:Same H' (upd H' a (.ext (ExcAt a C d))):=fun b o e=>by
    rw [up b (ne_of_none e F.free)]
    exact e
  have un0 := F.un5 f6.1 (u5.trans u6)
  have un6:Un (frs X.stack) [] H (upd H' a (.ext (ExcAt a C d))) s.heap h6 :=
    ⟨un0.keep, un0.slot, fun b o e n' hx => by
      have hb : b ≠ a := by
        rintro rfl
        rw [F.fresh] at e
        cases e
      rw [up b hb]
      exact un0.free b o e n' hx,un0.there,fun b xs e=>sm b _ (un0.tups b xs e),fun b o u e=>sm b _ (un0.frzs b o u e),fun b ps e=>by
      obtain ⟨more, e1⟩ := un0.tbls b ps e
      exact ⟨more, sm b _ e1⟩⟩
  have ok0 := F.hok5 f6.1
  have ok6:HOk X.prog X.w (upd H' a (.ext (ExcAt a C d))) h6:=fun b u e=>by
    by_cases hb : b = a
    · subst hb
      rw [upd_same] at e
      cases e
      refine ⟨⟨oe,ws,oe1,oe2,oe3,oe4,⟨_,oe5⟩,fun z=>nomatch z⟩,⟨oe,oe1⟩,fun h1 h2 ⟨o,vs,z1,z2,z3,z4⟩ k=>⟨o,vs,k o z1,z2,z3,z4⟩⟩
    · rw [up b hb] at e
      exact (ok0 b u e).stay (fun _ _ _ q=>q) (fun c z=>sm c _ z) fun c xs z=>sm c _ z
  have I6:Inv X pins σ (upd H' a (.ext (ExcAt a C d))) { s' with heap:=h6 }:=I.call' (s':={ s' with heap:=h6 }) (ch:=[]) F.os un6 ok6 F.bare fun b hb=>absurd hb (by simp)
  refine store_ok (X:=cxM X (.ref a)) (inv_mark I6 (.ref a)) nd hn (.inl hl) (v:=.ref a) rfl (fun s7 I7=>?_) (.inr hl)
  refine wpAny_mono (hu (.ref a) pins s7 _ _ _ I7 (q _ sm upd_same)) (fun fl s8 q8=>?_) fun _ _ z=>z.elim
  cases fl with
  | next =>
    obtain ⟨σ8, H8, I8, q8⟩ := q8
    exact name_goes (inv_unmark I.ok I8) nd hn hl fun s9 I9=>⟨_,H8,I9,q8⟩
  | brk =>
    obtain ⟨σ8, H8, I8, q8⟩ := q8
    exact name_goes (inv_unmark I.ok I8) nd hn hl fun s9 I9=>⟨_,H8,I9,q8⟩
  | cont =>
    obtain ⟨σ8, H8, I8, q8⟩ := q8
    exact name_goes (inv_unmark I.ok I8) nd hn hl fun s9 I9=>⟨_,H8,I9,q8⟩
  | ret u =>
    obtain ⟨v, σ8, H8, I8, r8, q8⟩ := q8
    exact name_goes (inv_unmark I.ok I8) nd hn hl fun s9 I9=>⟨v,_,H8,I9,r8,q8⟩
abbrev suQ (D:Ends) (n:Nat) (tu:TS) (σ:L2.St) (H2:Hp) (C:Addr) (d:Option Addr):Prop :=
  ∀ a H3,Same H2 H3→H3 a = some (.ext (ExcAt a C d))→tu { nx:=fun σ' H'=>D.nx (σ'.set n none) H',rt:=D.rt,bk:=fun σ' H'=>D.bk (σ'.set n none) H',ct:=fun σ' H'=>D.ct (σ'.set n none) H' } (σ.set n (some (.ref a))) H3
def hnd2 (K:PySem.W.Frag) (D1:Addr) (n1:Nat) (tu1:TS) (D2:Addr) (n2:Nat) (tu2:TS) (D:Ends) (σ:L2.St):XK:=fun cls d H2=>∃ C b,cls = .ref C∧ExcC K C∧PySem.W.mroIn K C (.ref D1) = some b ∧
  ((b = true∧suQ D n1 tu1 σ H2 C d) ∨ (b = false∧PySem.W.mroIn K C (.ref D2) = some true∧suQ D n2 tu2 σ H2 C d))
theorem handle2 {E:Value→Shared→Prop} {a C D1 D2:Addr} {b:Bool} {d:Option Addr} {B:Heap} {a0:Value} {y1 y2 nm1 nm2:Str} {yp1 hpos1 yp2 hpos2:Pos} {b1 b2:Stmt} {su1 su2:List Stmt} {n1 n2:Nat} {tu1 tu2:TS} {D:Ends} (dx:DefCx X) (I:Inv X pins σ H s) (F:Fly X.prog X.w X.stack H s H' a (.ref C) d B a0 s')
    (hy1:Gl X y1) (hD1:X.mg y1 = some (.ref D1)) (cD1:Cat X.K D1) (hy2:Gl X y2) (hD2:X.mg y2 = some (.ref D2)) (cD2:Cat X.K D2) (nd:X.N.Nodup) (hn1:X.N[n1]? = some nm1) (hl1:X.env.scope.names.lookup nm1 = some .local) (hn2:X.N[n2]? = some nm2) (hl2:X.env.scope.names.lookup nm2 = some .local)
    (hu1:∀ v,PSs (cxM X v) (b1 :: su1) tu1) (hu2:∀ v,PSs (cxM X v) (b2 :: su2) tu2) (hdb1:(y1 == ("__debug__":Str)) = false) (hdb2:(y2 == ("__debug__":Str)) = false)
    (hm:PySem.W.mroIn X.K C (.ref D1) = some b) (q:(b = true∧suQ D n1 tu1 σ H' C d) ∨ (b = false∧PySem.W.mroIn X.K C (.ref D2) = some true∧suQ D n2 tu2 σ H' C d)) :
    wpAny (model X.prog X.w) X.A (noteFrame (.ref a) X.env) (fun _ s2=>wpAny (model X.prog X.w) X.A (setFlight (.ref a) none) (fun _ s3 =>
      wpAny (model X.prog X.w) X.A (handleBy (.ref a) X.env [.ExceptHandler (some (.Name y1 yp1)) (some nm1) (b1 :: su1) hpos1,.ExceptHandler (some (.Name y2 yp2)) (some nm2) (b2 :: su2) hpos2]) (SP X pins D) E s3) E s2) E s':=by
  have hfr:X.A.frames = some (X.env :: X.outer):=by rw [I.ok.frames,dx.stk]
  have hfl := F.fly
  rw [dx.stk] at hfl
  refine wpAny_mono (mild_any mild_note F.dct (wpAny_looks_onW (Q:=fun _ s4=>∃ h4,s4 = { s' with heap:=h4 }∧Heap.HeldW B (X.env :: X.outer) a (.ref C) a0 X.env.locals h4∧s'.heap.UpToSlots h4) hfr dx.fr hfl fun h4 held u4=>⟨h4,rfl,held,u4⟩)) (fun _ s4 ⟨⟨h4,e4,held,u4⟩,d4⟩=>?_) fun _ _ z=>z
  subst e4
  refine wpAny_mono (mild_any mild_setFlight d4 (wpAny_landsW (Q:=fun _ s5=>∃ h5,s5 = { s' with heap:=h5 }∧Heap.FlyingW B (X.env :: X.outer) a (.ref C) a0 h5∧h4.UpToSlots h5) held fun h5 f5 u5=>⟨h5,rfl,f5,u5⟩)) (fun _ s5 ⟨⟨h5,e5,f5,u5⟩,d5⟩=>?_) fun _ _ z=>z
  subst e5
  have I5:Inv X pins σ H' { s' with heap:=h5 }:=I.call' (s':={ s' with heap:=h5 }) (ch:=[]) F.os (F.un5 f5.1 (u4.trans u5)) (F.hok5 f5.1) F.bare fun b hb=>absurd hb (by simp)
  refine wpAny_handleBy_cons (codeAny_handlers_test (ld_glob (inv_mark I5 (.ref a)) hy1 hD1 ?_ hdb1)) (by intro z; cases z)
  rcases q with ⟨rfl, q⟩ | ⟨rfl, hm2, q⟩
  · exact exc_match I5.kIn f5.there cD1 hm (suite_ok dx I F f5 (u4.trans u5) d5 nd hn1 hl1 hu1 fun H3=>q a H3)
  · refine exc_miss I5.kIn f5.there cD1 hm ?_
    refine wpAny_handleBy_cons (codeAny_handlers_test (ld_glob (inv_mark I5 (.ref a)) hy2 hD2 ?_ hdb2)) (by intro z; cases z)
    exact exc_match I5.kIn f5.there cD2 hm2 (suite_ok dx I F f5 (u4.trans u5) d5 nd hn2 hl2 hu2 fun H3=>q a H3)
end
def tTryB2 (K:PySem.W.Frag) (tb:L2.St→XK→TS) (D1:Addr) (n1:Nat) (tu1:TS) (D2:Addr) (n2:Nat) (tu2:TS):TS:=fun D σ H=>tb σ (hnd2 K D1 n1 tu1 D2 n2 tu2 D σ) D σ H
theorem ps_tryB2 {X:Cx} {body:List Stmt} {tb:L2.St→XK→TS} {D1 D2:Addr} {y1 y2 nm1 nm2:Str} {pos yp1 hpos1 yp2 hpos2:Pos} {b1 b2:Stmt} {su1 su2:List Stmt} {n1 n2:Nat} {tu1 tu2:TS} (dx:DefCx X) (hb:∀ σ0 p0 Eh,PSs (cxT X σ0 p0 Eh) body (tb σ0 Eh))
    (hy1:Gl X y1) (hD1:X.mg y1 = some (.ref D1)) (cD1:Cat X.K D1) (hy2:Gl X y2) (hD2:X.mg y2 = some (.ref D2)) (cD2:Cat X.K D2) (nd:X.N.Nodup) (hn1:X.N[n1]? = some nm1) (hl1:X.env.scope.names.lookup nm1 = some .local) (hn2:X.N[n2]? = some nm2) (hl2:X.env.scope.names.lookup nm2 = some .local)
    (hu1:∀ v,PSs (cxM X v) (b1 :: su1) tu1) (hu2:∀ v,PSs (cxM X v) (b2 :: su2) tu2) (hdb1:(y1 == ("__debug__":Str)) = false:=by decide) (hdb2:(y2 == ("__debug__":Str)) = false:=by decide) :
    PS X (.Try body [.ExceptHandler (some (.Name y1 yp1)) (some nm1) (b1 :: su1) hpos1,.ExceptHandler (some (.Name y2 yp2)) (some nm2) (b2 :: su2) hpos2] [] [] pos) (tTryB2 X.K tb D1 n1 tu1 D2 n2 tu2):=by
  intro pins s σ H D I h
  refine wpAny_Try_except (wpAny_mono (hb σ pins (hnd2 X.K D1 n1 tu1 D2 n2 tu2 D σ) [] s σ H D (inv_tryIn I) h) (fun fl s1 q=>?_) fun ev s1 q=>?_)
  · cases fl with
    | next =>
      obtain ⟨σ', H', I', q⟩ := q
      exact wpAny_execs_nil ⟨σ', H', inv_tryOut I', q⟩
    | brk =>
      obtain ⟨σ', H', I', q⟩ := q
      exact ⟨σ', H', inv_tryOut I', q⟩
    | cont =>
      obtain ⟨σ', H', I', q⟩ := q
      exact ⟨σ', H', inv_tryOut I', q⟩
    | ret u =>
      obtain ⟨v, σ', H', I', r, q⟩ := q
      exact ⟨v, σ', H', inv_tryOut I', r, q⟩
  · obtain ⟨H1,s2,I1,a,cls,d,H2,B,a0,rfl,F,C',b,rfl,c,hm,q2⟩:=q
    exact handle2 dx I1 F hy1 hD1 cD1 hy2 hD2 cD2 nd hn1 hl1 hn2 hl2 hu1 hu2 hdb1 hdb2 hm q2
section
variable {X : Cx}
def dIsiD (K:PySem.W.Frag):List V→Hp→VK→Prop:=fun xs H Q=>match xs with
  | [.ref p,.ref D]=>∃ C d b,H p = some (.ext (ExcAt p C d))∧ExcC K C∧PySem.W.kitOne K (.ref C) (.ref D) = some b∧Q (.bl b) H
  | [.ref p,.ty T]=>∃ C d b,H p = some (.ext (ExcAt p C d))∧ExcC K C∧PySem.W.kitOne K (.ref C) (.type T) = some b∧Q (.bl b) H
  | _ => False
theorem c_isiD:CallR X (.builtin "isinstance") (dIsiD X.K):=by
  intro pins s σ H xs us Q I r h
  match xs, h with
  | [.ref p, .ref D], ⟨C, d, b, e, c, k, q⟩ =>
    obtain ⟨u, v, rfl, r1, r2⟩ := vals2 r
    cases (show u = Value.ref p from r1)
    cases (show v = Value.ref D from r2)
    have o:ObjOk X.prog X.w H s.heap p (.ext (ExcAt p C d)):=I.hok p _ e
    exact PySem.W.kia_one (exc_kit c) I.kIn o.1 k (fun z=>nomatch z) fun tk=>⟨.bl b,H,I.tok _,rfl,q⟩
  | [.ref p, .ty T], ⟨C, d, b, e, c, k, q⟩ =>
    obtain ⟨u, v, rfl, r1, r2⟩ := vals2 r
    cases (show u = Value.ref p from r1)
    cases (show v = Value.type T from r2)
    have o:ObjOk X.prog X.w H s.heap p (.ext (ExcAt p C d)):=I.hok p _ e
    exact PySem.W.kia_one (exc_kit c) I.kIn o.1 k (fun z=>nomatch z) fun tk=>⟨.bl b,H,I.tok _,rfl,q⟩
end
def dCallNX (sp:Sp) (E:XK) (t:TA):TE:=fun σ H Q=>t σ H fun vs H1=>sp (vs ++ [V.non]) H1 Q E
section
variable {P:Program} {w:World} {K:PySem.W.Frag} {mg:Str→Option Value} {base:Heap} {N:List Str} {qual:Str} {scope:Scope} {f:Addr} {cd:Value} {A:Around} {outer:List Env} {s₀:Shared} {H₀:Hp} {E:XK}
theorem e_callNX {x:Str} {ps:List Str} {k k':Nat} {sp:Sp} {p pos:Pos} {e:Expr} {es:List Expr} {t:TA} (C:CalN P w K mg base x ps k sp) (hr:Room k' (cxOf (CXE P w) P w K mg base N qual scope f cd A outer s₀ H₀ E).A) (hk:k ≤ k') (hg:Gl (cxOf (CXE P w) P w K mg base N qual scope f cd A outer s₀ H₀ E) x)
    (ha:PA (cxOf (CXE P w) P w K mg base N qual scope f cd A outer s₀ H₀ E) (e :: es) t) (hdb:(x == ("__debug__":Str)) = false:=by decide)
    (he:starEach (e :: es) (cxOf (CXE P w) P w K mg base N qual scope f cd A outer s₀ H₀ E).env = (false,eval e (cxOf (CXE P w) P w K mg base N qual scope f cd A outer s₀ H₀ E).env) :: starEach es (cxOf (CXE P w) P w K mg base N qual scope f cd A outer s₀ H₀ E).env:=by rfl)
    (hpl:(backTo pos (starEach es (cxOf (CXE P w) P w K mg base N qual scope f cd A outer s₀ H₀ E).env)).any (·.1) = false:=by rfl) :
    PE (cxOf (CXE P w) P w K mg base N qual scope f cd A outer s₀ H₀ E) (.Call (.Name x p) (e :: es) [] pos) (dCallNX sp E t):=by
  obtain ⟨f', fd, h1, h2, _, h3, h4, _⟩ := C.ex
  exact pe_call (X:=cxOf (CXE P w) P w K mg base N qual scope f cd A outer s₀ H₀ E) (ds:=[.none]) (dvs:=[V.non]) (h4.mono hk) hr hg h1 h2 h3 (.cons rfl .nil) (passX (E:=E)) ha hdb he hpl
end
end Lw
end
--@init NoFit
set_option Elab.async false
set_option linter.all false
set_option maxRecDepth 100000
set_option maxHeartbeats 0
set_option exponentiation.threshold 5000
namespace My
open PySem PySem.Spec PyProof.Rows L2 Lw
local macro_rules | `(tactic| walk_at "hp")=>`(tactic| first | assumption | (refine sm_at (by assumption) ?_; walk_at "hp") | (refine sm_sq (by assumption) ?_; walk_at "hp") | (refine Fq.up (by assumption) ?_; walk_at "hp") | (refine Pq.up (by assumption) ?_; walk_at "hp"))
def top (i:Nat):Stmt:=PySem.Challenge.pw_ladderworth_k35_no_ends.main.body.getD i (.Pass ⟨0,0,0,0⟩)
abbrev s_NoFit___init__ : Stmt := inClass (top 8) 0
abbrev s_copied : Stmt := top 12
abbrev s_is_whole : Stmt := top 14
abbrev s_fraction : Stmt := top 15
abbrev s_greatest_divisor : Stmt := top 16
abbrev s_under : Stmt := top 17
abbrev s_turned : Stmt := top 19
abbrev s_players : Stmt := top 21
abbrev s_told_by : Stmt := top 22
abbrev s_check_player : Stmt := top 24
abbrev s_takers : Stmt := top 25
abbrev s_above : Stmt := top 26
abbrev s_ways_from : Stmt := top 27
abbrev s_verdict : Stmt := top 28
abbrev s_joined : Stmt := top 29
abbrev s_stretch : Stmt := top 31
abbrev s_odds : Stmt := top 33
abbrev s_own_sum : Stmt := top 34
abbrev s_raised : Stmt := top 37
abbrev s_lowered : Stmt := top 38
abbrev s_first_number : Stmt := top 39
abbrev s_named_numbers : Stmt := top 40
abbrev s_uppers : Stmt := top 41
abbrev s_lowers : Stmt := top 42
abbrev s_check_fit : Stmt := top 43
abbrev s_first_numbers : Stmt := top 44
abbrev s_after_rounds : Stmt := top 45
abbrev s_tops_but : Stmt := top 46
abbrev s_ends : Stmt := top 47
abbrev s_l_cell_at : Stmt := top 49
abbrev s_l_stream : Stmt := top 50
abbrev s_l_games : Stmt := top 51
abbrev s_l_no_other : Stmt := top 52
abbrev s_l_asked : Stmt := top 53
abbrev s_l_told : Stmt := top 54
abbrev s_l_right : Stmt := top 55
abbrev s_l_of : Stmt := top 56
abbrev s_law : Stmt := top 57
structure Errs (K:PySem.W.Frag) (mg:Str→Option Value) (c_LadderError c_NoBook c_NoFit c_NoGame c_NoNumber c_NoPlayer c_NoRow c_NoStretch c_NoTable c_NoTree c_NoWorth:Addr):Prop where
  b_LadderError:mg "LadderError" = some (.ref c_LadderError)
  b_NoBook : mg "NoBook" = some (.ref c_NoBook)
  b_NoFit : mg "NoFit" = some (.ref c_NoFit)
  b_NoGame : mg "NoGame" = some (.ref c_NoGame)
  b_NoNumber : mg "NoNumber" = some (.ref c_NoNumber)
  b_NoPlayer : mg "NoPlayer" = some (.ref c_NoPlayer)
  b_NoRow : mg "NoRow" = some (.ref c_NoRow)
  b_NoStretch : mg "NoStretch" = some (.ref c_NoStretch)
  b_NoTable : mg "NoTable" = some (.ref c_NoTable)
  b_NoTree : mg "NoTree" = some (.ref c_NoTree)
  b_NoWorth : mg "NoWorth" = some (.ref c_NoWorth)
  y_NoPlayer:PySem.W.nsIn K mainGlobals "NoPlayer" = some (some (.ref c_NoPlayer))
  y_NoFit:PySem.W.nsIn K mainGlobals "NoFit" = some (some (.ref c_NoFit))
  x_LadderError : ExcC K c_LadderError
  x_NoFit : ExcC K c_NoFit
  x_NoPlayer : ExcC K c_NoPlayer
  kv_NoPlayer:PySem.W.kitOne K (.ref c_NoPlayer) (.type "ValueError") = some true
  kk_NoPlayer_LadderError:PySem.W.kitOne K (.ref c_NoPlayer) (.ref c_LadderError) = some true
  kk_NoPlayer_NoBook:PySem.W.kitOne K (.ref c_NoPlayer) (.ref c_NoBook) = some false
  kk_NoPlayer_NoFit:PySem.W.kitOne K (.ref c_NoPlayer) (.ref c_NoFit) = some false
  kk_NoPlayer_NoGame:PySem.W.kitOne K (.ref c_NoPlayer) (.ref c_NoGame) = some false
  kk_NoPlayer_NoNumber:PySem.W.kitOne K (.ref c_NoPlayer) (.ref c_NoNumber) = some false
  kk_NoPlayer_NoPlayer:PySem.W.kitOne K (.ref c_NoPlayer) (.ref c_NoPlayer) = some true
  kk_NoPlayer_NoRow:PySem.W.kitOne K (.ref c_NoPlayer) (.ref c_NoRow) = some false
  kk_NoPlayer_NoStretch:PySem.W.kitOne K (.ref c_NoPlayer) (.ref c_NoStretch) = some false
  kk_NoPlayer_NoTable:PySem.W.kitOne K (.ref c_NoPlayer) (.ref c_NoTable) = some false
  kk_NoPlayer_NoTree:PySem.W.kitOne K (.ref c_NoPlayer) (.ref c_NoTree) = some false
  kk_NoPlayer_NoWorth:PySem.W.kitOne K (.ref c_NoPlayer) (.ref c_NoWorth) = some false
  km_NoPlayer_LadderError:PySem.W.mroIn K c_NoPlayer (.ref c_LadderError) = some true
  kn_NoPlayer_NoFit:PySem.W.mroIn K c_NoPlayer (.ref c_NoFit) = some false
  km_NoPlayer_NoPlayer:PySem.W.mroIn K c_NoPlayer (.ref c_NoPlayer) = some true
  kv_NoFit:PySem.W.kitOne K (.ref c_NoFit) (.type "ValueError") = some true
  kk_NoFit_LadderError:PySem.W.kitOne K (.ref c_NoFit) (.ref c_LadderError) = some true
  kk_NoFit_NoBook:PySem.W.kitOne K (.ref c_NoFit) (.ref c_NoBook) = some false
  kk_NoFit_NoFit:PySem.W.kitOne K (.ref c_NoFit) (.ref c_NoFit) = some true
  kk_NoFit_NoGame:PySem.W.kitOne K (.ref c_NoFit) (.ref c_NoGame) = some false
  kk_NoFit_NoNumber:PySem.W.kitOne K (.ref c_NoFit) (.ref c_NoNumber) = some false
  kk_NoFit_NoPlayer:PySem.W.kitOne K (.ref c_NoFit) (.ref c_NoPlayer) = some false
  kk_NoFit_NoRow:PySem.W.kitOne K (.ref c_NoFit) (.ref c_NoRow) = some false
  kk_NoFit_NoStretch:PySem.W.kitOne K (.ref c_NoFit) (.ref c_NoStretch) = some false
  kk_NoFit_NoTable:PySem.W.kitOne K (.ref c_NoFit) (.ref c_NoTable) = some false
  kk_NoFit_NoTree:PySem.W.kitOne K (.ref c_NoFit) (.ref c_NoTree) = some false
  kk_NoFit_NoWorth:PySem.W.kitOne K (.ref c_NoFit) (.ref c_NoWorth) = some false
  km_NoFit_LadderError:PySem.W.mroIn K c_NoFit (.ref c_LadderError) = some true
  km_NoFit_NoFit:PySem.W.mroIn K c_NoFit (.ref c_NoFit) = some true
  z_NoPlayer:PySem.W.excIn K c_NoPlayer vB "ValueError.__new__" = true
  ei_NoFit : ExI K c_NoFit
  es_NoFit : ExS K c_NoFit
  na_NoFit_verdict:PySem.W.findIn K (.ref c_NoFit) "verdict" = some none
  r_LadderError : RdC K c_LadderError
  fi_LadderError:PySem.W.findCls K (.ref c_LadderError) (.type "type") "__init__" = some (.val (.builtin "ValueError.__init__"))
section
variable {P:Program} {w:World} {K:PySem.W.Frag} {mg:Str→Option Value} {base:Heap} {ns:List Int}
variable {c_LadderError c_NoBook c_NoFit c_NoGame c_NoNumber c_NoPlayer c_NoRow c_NoStretch c_NoTable c_NoTree c_NoWorth:Addr}
--@thinall
theorem nb {P:Prop} {a b:Bool} (h:a = b) (n:(a == b) = false:=by rfl):P:=by
  subst h
  rw [beq_self_eq_true] at n
  cases n
def wh : V → Bool
  | .int _ => true
  | _ => false
def Kd (H : Hp) : V → Prop
  | .int _ => True
  | .bl _ => True
  | .non => True
  | .str _ => True
  | .ref p=>∃ u t,H p = some u∧tyHO u = some t∧tyB t "int" = some false
  | _ => False
def ExN (K:PySem.W.Frag) (x:Str) (E:XK) (H:Hp):Prop:=∀ C,PySem.W.nsIn K mainGlobals x = some (some (.ref C))→E (.ref C) none H
def sp_is_whole (K:PySem.W.Frag) (ns:List Int):Sp:=fun vs H Q _=>match vs with
  | [v] => Kd H v ∧ Q (.bl (wh v)) H
  | _ => False
theorem sc_is_whole:FnScope ["thing"] ["thing"] (defScope s_is_whole):=⟨rfl,rfl,rfl,by decide +kernel,rfl,by decide +kernel,by decide +kernel⟩
theorem ok_is_whole (d:Dfn K mg "is_whole" s_is_whole ["thing"]) (er:Errs K mg c_LadderError c_NoBook c_NoFit c_NoGame c_NoNumber c_NoPlayer c_NoRow c_NoStretch c_NoTable c_NoTree c_NoWorth) (n_isinstance:mg "isinstance" = none) (n_bool:mg "bool" = none) (n_int:mg "int" = none)  :Cal P w K mg base "is_whole" ["thing"] 1 (sp_is_whole K ns):=by
  refine d.cal (k:=0) sc_is_whole (fun vs H Q E h=>?_) (fun f cdv A outer s H vs Q E hr h=>?_)
  · match vs, h with
    | [_], _ => rfl
  · refine ⟨_,(@pss_one _ _ _ (@ps_ret _ _ _ _ (@e_and _ _ _ _ _ _ _ (@pe_callB _ _ _ _ _ _ _ _ _ c_isi (by rfl) n_isinstance (by decide +kernel) (@pa_cons _ _ _ _ _ (dv 0) (@pa_cons _ _ _ _ _ (e_ty "int" (by rfl) n_int (by decide +kernel)) pa_nil (by rfl)) (by rfl)) (by decide) (by decide) (by rfl) (by rfl)) (@pe_one _ _ _ _ _ (@e_not _ _ _ _ (@pe_callB _ _ _ _ _ _ _ _ _ c_isi (by rfl) n_isinstance (by decide +kernel) (@pa_cons _ _ _ _ _ (dv 0) (@pa_cons _ _ _ _ _ (e_ty "bool" (by rfl) n_bool (by decide +kernel)) pa_nil (by rfl)) (by rfl)) (by decide) (by decide) (by rfl) (by rfl))))))),?_⟩
    match vs, h with
    | [.int _],⟨_,q⟩=>exact ⟨true,rfl,fun _=>⟨false,rfl,q⟩,fun h=>absurd h (by decide)⟩
    | [.bl _],⟨_,q⟩=>exact ⟨true,rfl,fun _=>⟨true,rfl,q⟩,fun h=>absurd h (by decide)⟩
    | [.non],⟨_,q⟩=>exact ⟨false,rfl,fun h=>absurd h (by decide),fun _=>q⟩
    | [.str _],⟨_,q⟩=>exact ⟨false,rfl,fun h=>absurd h (by decide),fun _=>q⟩
    | [.ref _],⟨⟨u,t,h1,h2,h3⟩,q⟩=>exact ⟨u,false,t,h1,h2,h3,fun h=>absurd h (by decide),fun _=>q⟩
    | [.flt _], ⟨z, _⟩ => exact z.elim
    | [.byt _], ⟨z, _⟩ => exact z.elim
    | [.ty _], ⟨z, _⟩ => exact z.elim
theorem ns_inj {K:PySem.W.Frag} {x:Str} {C D:Addr} (h:PySem.W.nsIn K mainGlobals x = some (some (.ref C))) (h':PySem.W.nsIn K mainGlobals x = some (some (.ref D))):C = D:=by
  rw [h] at h'
  cases h'
  rfl
def sp_l_cell_at (K:PySem.W.Frag) (ns:List Int):Sp:=fun vs H Q _=>match vs with
  | [.ref a,.int k]=>SqL K H a (ns.map V.int)∧0 ≤ k∧∀ c:Int,Q (.int c) H
  | _ => False
theorem sc_l_cell_at:FnScope ["_law_script","_law_k"] ["_law_script","_law_k"] (defScope s_l_cell_at):=⟨rfl,rfl,rfl,by decide +kernel,rfl,by decide +kernel,by decide +kernel⟩
theorem ok_l_cell_at (d:Dfn K mg "_law_cell_at" s_l_cell_at ["_law_script","_law_k"]) (er:Errs K mg c_LadderError c_NoBook c_NoFit c_NoGame c_NoNumber c_NoPlayer c_NoRow c_NoStretch c_NoTable c_NoTree c_NoWorth) (n_len:mg "len" = none)  :Cal P w K mg base "_law_cell_at" ["_law_script","_law_k"] 1 (sp_l_cell_at K ns):=by
  refine d.cal (k:=0) sc_l_cell_at (fun vs H Q E h=>?_) (fun f cdv A outer s H vs Q E hr h=>?_)
  · match vs, h with
    | [.ref a, .int k], _ => rfl
  · match vs, h with
    | [.ref a, .int k], hq0 =>
      obtain ⟨hS, k0, q⟩ := hq0
      refine ⟨_,(@pss_cons _ _ _ _ _ (@s_if _ _ _ _ _ _ _ _ (@t_cmp _ _ _ _ _ _ _ _ o_lt (dv 1) (@pe_callB _ _ _ _ _ _ _ _ _ c_len (by rfl) n_len (by decide +kernel) (@pa_cons _ _ _ _ _ (dv 0) pa_nil (by rfl)) (by decide) (by decide) (by rfl) (by rfl)) (@nomark _ _ (by decide) (by decide))) (@pss_one _ _ _ (@ps_ret _ _ _ _ (@pe_ix _ _ _ _ _ _ _ i_lst (dv 0) (dv 1) (fun _ _=>rfl)))) pss_nil) (@pss_one _ _ _ (@ps_ret _ _ _ _ pe_int))),?_⟩
      refine ⟨_, .inl hS, ⟨fun h => ?_, fun _ => q 0⟩⟩
      have h := of_decide_eq_true h
      rw [List.length_map] at h
      obtain ⟨j, rfl⟩ := Int.eq_ofNat_of_zero_le k0
      have hj : j < ns.length := by omega
      refine ⟨_, .int ns[j], hS, atI_nat ?_, q _⟩
      rw [List.getElem?_map, List.getElem?_eq_getElem hj]
      rfl
def BS (xs:List Int):Prop:=∀ x ∈ xs,0 ≤ x∧x < 2147483647
theorem BS.at {xs:List Int} (h:BS xs) {i:Nat} (hi:i < xs.length):∃ x,atI (xs.map V.int) (i:Int) = some (.int x)∧0 ≤ x∧x < 2147483647:=by
  have hm := h xs[i] (List.getElem_mem hi)
  refine ⟨xs[i], ?_, hm.1, hm.2⟩
  refine atI_nat ?_
  rw [List.getElem?_map, List.getElem?_eq_getElem hi]
  rfl
theorem BS.g {xs:List Int} (h:BS xs) (k:Int) (h0:0 ≤ k) (h1:k < xs.length):∃ x,atI (xs.map V.int) k = some (.int x)∧0 ≤ x∧x < 2147483647:=by
  obtain ⟨i, rfl⟩ := Int.eq_ofNat_of_zero_le h0
  exact h.at (by omega)
def sp_l_stream (K:PySem.W.Frag) (ns:List Int):Sp:=fun vs H Q _=>match vs with
  | [.int c,.int sl,.int m]=>((0 ≤ sl∧sl < 1000)∧(0 ≤ m∧m < 1000))∧∀ D (xs:List Int) H',Same H H'→H D = none→H' D = some (.lst (xs.map V.int))→(xs.length:Int) = m→BS xs→Q (.ref D) H'
  | _ => False
theorem sc_l_stream:FnScope ["_law_cell","_law_salt","_law_many","_law_found","_law_number","_law_k"] ["_law_cell","_law_salt","_law_many"] (defScope s_l_stream):=⟨rfl,rfl,rfl,by decide +kernel,rfl,by decide +kernel,by decide +kernel⟩
theorem ok_l_stream (d:Dfn K mg "_law_stream" s_l_stream ["_law_cell","_law_salt","_law_many"]) (er:Errs K mg c_LadderError c_NoBook c_NoFit c_NoGame c_NoNumber c_NoPlayer c_NoRow c_NoStretch c_NoTable c_NoTree c_NoWorth) (n_range:mg "range" = none)  :Cal P w K mg base "_law_stream" ["_law_cell","_law_salt","_law_many"] 1 (sp_l_stream K ns):=by
  refine d.cal (k:=0) sc_l_stream (fun vs H Q E h=>?_) (fun f cdv A outer s H vs Q E hr h=>?_)
  · match vs, h with
    | [.int c, .int sl, .int m], _ => rfl
  · match vs, h with
    | [.int c, .int sl, .int m], hq0 =>
      obtain ⟨⟨⟨s0, s1⟩, ⟨m0, m1⟩⟩, q⟩ := hq0
      refine ⟨_,(@pss_cons _ _ _ _ _ (@ps_set _ _ (3) _ _ _ _ sc_l_stream.nd rfl (by first | exact Or.inl rfl | exact Or.inr rfl) (@pe_lst _ _ _ _ pa_nil) (by rfl) (by first | exact .inl rfl | exact .inr rfl | assumption)) (@pss_cons _ _ _ _ _ (@ps_set _ _ (4) _ _ _ _ sc_l_stream.nd rfl (by first | exact Or.inl rfl | exact Or.inr rfl) (@pe_op _ _ _ _ _ _ _ _ o_mod (@pe_op _ _ _ _ _ _ _ _ o_add (@pe_op _ _ _ _ _ _ _ _ o_add (@pe_op _ _ _ _ _ _ _ _ o_mul (@pe_op _ _ _ _ _ _ _ _ o_mod (dv 0) pe_int) pe_int) (@pe_op _ _ _ _ _ _ _ _ o_mul (@pe_op _ _ _ _ _ _ _ _ o_mul (dv 1) (dv 1)) pe_int)) pe_int) pe_int) (by rfl) (by first | exact .inl rfl | exact .inr rfl | assumption)) (@pss_cons _ _ _ _ _ (@ps_for _ _ _ _ _ _ _ _ PassesOwn.never rfl (@pi_range1 _ _ _ _ _ _ (by rfl) n_range (@pa_cons _ _ _ _ _ (dv 2) pa_nil (by rfl)) (by rfl)) (@pg_name _ _ (5) _ sc_l_stream.nd rfl (by first | exact Or.inl rfl | exact Or.inr rfl) (by first | exact .inl rfl | exact .inr rfl | assumption)) (@pss_cons _ _ _ _ _ (@ps_set _ _ (4) _ _ _ _ sc_l_stream.nd rfl (by first | exact Or.inl rfl | exact Or.inr rfl) (@pe_op _ _ _ _ _ _ _ _ o_mod (@pe_op _ _ _ _ _ _ _ _ o_add (@pe_op _ _ _ _ _ _ _ _ o_add (@pe_op _ _ _ _ _ _ _ _ o_add (@pe_op _ _ _ _ _ _ _ _ o_mul (dv 4) (dv 4)) (@pe_op _ _ _ _ _ _ _ _ o_mul pe_int (dv 4))) (dv 5)) (dv 1)) pe_int) (by rfl) (by first | exact .inl rfl | exact .inr rfl | assumption)) (@pss_one _ _ _ (@ps_expr _ _ _ _ (@pe_bm _ _ _ _ _ _ _ _ _ _ _ _ PySem.F.plainAttrs_list PySem.F.slot_list_append PySem.F.type_list_append mt_append (dv 3) (@pa_cons _ _ _ _ _ (dv 4) pa_nil (by rfl)) (by rfl) (by rfl) (by rfl) (by rfl) (by rfl)) (by rfl)))) (by intro _; rfl)) (@pss_one _ _ _ (@ps_ret _ _ _ _ (dv 3)))))),?_⟩
      refine ⟨by decide, fun D hD => ?_⟩
      refine ⟨(by show (0:Int) < 2147483647; decide),.inr (.inr ⟨by decide,by decide⟩),.inr (.inl ⟨by omega,by omega⟩),.inr (.inr ⟨by decide,by decide⟩),(by show (0:Int) < 2147483647; decide),?_⟩
      have z0:=Int.emod_nonneg (c % 2147483647 * 48271 + sl * sl * 69621 + 11) (show (2147483647:Int) ≠ 0 by decide)
      have z1:=Int.emod_lt_of_pos (c % 2147483647 * 48271 + sl * sl * 69621 + 11) (show (0:Int) < 2147483647 by decide)
      refine ⟨m,rfl,by omega,by omega,for_range (lo:=0) (n:=m.toNat) (fun i σ H'=>∃ (xs:List Int) (y:Int) (o:Option V),σ = [some (.int c),some (.int sl),some (.int m),some (.ref D),some (.int y),o]∧H' = upd H D (.lst (xs.map V.int))∧xs.length = i∧BS xs∧0 ≤ y∧y < 2147483647)
        ⟨[],_,none,rfl,rfl,rfl,fun _ h=>absurd h (by simp),z0,z1⟩ ?_ ?_⟩
      · rintro i σ H' hi ⟨xs,y,o,rfl,rfl,hl,hb,y0,y1⟩
        refine ⟨.inr (.inl ⟨by omega,by omega⟩),.inr (.inl ⟨by decide,by decide⟩),(by show (0:Int) < 2147483647; decide),?_⟩
        have w0:=Int.emod_nonneg (y * y + 48271 * y + (0 + (i:Int)) + sl) (show (2147483647:Int) ≠ 0 by decide)
        have w1:=Int.emod_lt_of_pos (y * y + 48271 * y + (0 + (i:Int)) + sl) (show (0:Int) < 2147483647 by decide)
        refine ⟨.inl ⟨rfl,_,SqL.of upd_same⟩,D,_,_,rfl,rfl,upd_same,?_,xs ++ [(y * y + 48271 * y + (0 + (i:Int)) + sl) % 2147483647],_,_,rfl,?_,?_,fun x hx=>?_,w0,w1⟩
        · rw [List.length_map, hl]
          exact Nat.lt_of_lt_of_le (show i < 1000 by omega) (by decide)
        · rw [upd_upd, List.map_append]
          rfl
        · rw [List.length_append, hl]
          rfl
        · rcases List.mem_append.mp hx with h | h
          · exact hb x h
          · rw [List.mem_singleton] at h
            subst h
            exact ⟨w0, w1⟩
      · rintro σ H' ⟨xs, y, o, rfl, rfl, hl, hb, y0, y1⟩
        exact q D xs _ (same_upd hD) hD upd_same (by omega) hb
def sp_greatest_divisor (K:PySem.W.Frag) (ns:List Int):Sp:=fun vs H Q _=>match vs with
  | [.int x, .int y] => Q (.int (Int.gcd x y : Int)) H
  | _ => False
theorem sc_greatest_divisor:FnScope ["one","other","rest"] ["one","other"] (defScope s_greatest_divisor):=⟨rfl,rfl,rfl,by decide +kernel,rfl,by decide +kernel,by decide +kernel⟩
theorem ok_greatest_divisor (d:Dfn K mg "greatest_divisor" s_greatest_divisor ["one","other"]) (er:Errs K mg c_LadderError c_NoBook c_NoFit c_NoGame c_NoNumber c_NoPlayer c_NoRow c_NoStretch c_NoTable c_NoTree c_NoWorth) (n_abs:mg "abs" = none)  :Cal P w K mg base "greatest_divisor" ["one","other"] 1 (sp_greatest_divisor K ns):=by
  refine d.cal (k:=0) sc_greatest_divisor (fun vs H Q E h=>?_) (fun f cdv A outer s H vs Q E hr h=>?_)
  · match vs, h with
    | [.int x, .int y], _ => rfl
  · match vs, h with
    | [.int x, .int y], hq0 =>
      have q := hq0
      refine ⟨_,(@pss_cons _ _ _ _ _ (@s_while _ _ _ _ _ _ PassesOwn.never (@t_cmp _ _ _ _ _ _ _ _ o_ne (dv 1) pe_int (@nomark _ _ (by decide) (by decide))) (@pss_cons _ _ _ _ _ (@ps_set _ _ (2) _ _ _ _ sc_greatest_divisor.nd rfl (by first | exact Or.inl rfl | exact Or.inr rfl) (@pe_op _ _ _ _ _ _ _ _ o_modN (dv 0) (dv 1)) (by rfl) (by first | exact .inl rfl | exact .inr rfl | assumption)) (@pss_cons _ _ _ _ _ (@ps_set _ _ (0) _ _ _ _ sc_greatest_divisor.nd rfl (by first | exact Or.inl rfl | exact Or.inr rfl) (dv 1) (by rfl) (by first | exact .inl rfl | exact .inr rfl | assumption)) (@pss_one _ _ _ (@ps_set _ _ (1) _ _ _ _ sc_greatest_divisor.nd rfl (by first | exact Or.inl rfl | exact Or.inr rfl) (dv 2) (by rfl) (by first | exact .inl rfl | exact .inr rfl | assumption)))))) (@pss_one _ _ _ (@ps_ret _ _ _ _ (@pe_callB _ _ _ _ _ _ _ _ _ c_abs (by rfl) n_abs (by decide +kernel) (@pa_cons _ _ _ _ _ (dv 0) pa_nil (by rfl)) (by decide) (by decide) (by rfl) (by rfl))))),?_⟩
      refine ⟨fun m σ H'=>∃ a b o,σ = [some (.int a),some (.int b),o]∧H' = H∧Int.gcd a b = Int.gcd x y∧m = b.natAbs,⟨_,x,y,none,rfl,rfl,rfl,rfl⟩,?_⟩
      rintro m σ H' ⟨a, b, o, rfl, rfl, g, rfl⟩
      refine ⟨fun h => ?_, fun h => ?_⟩
      · have hb : ¬ b = 0 := by simpa using h
        refine ⟨hb, ?_⟩
        exact ⟨(a.fmod b).natAbs,fmod_lt a hb,b,a.fmod b,_,rfl,rfl,by rw [gcd_fmod,g],rfl⟩
      · have hb : b = 0 := by simpa using h
        subst hb
        have e:(Int.gcd x y:Int) = (a.natAbs:Int):=by
          rw [← g, Int.gcd_zero_right]
        have q : Q (.int (Int.gcd x y : Int)) H' := q
        rw [e] at q
        exact q
def sp_fraction (K:PySem.W.Frag) (ns:List Int):Sp:=fun vs H Q _=>match vs with
  | [.int t,.int b]=>(b ≠ 0∧Bd 4000 b)∧∀ p H',Same H H'→FrAt H' p t b→Q (.ref p) H'
  | _ => False
theorem sc_fraction:FnScope ["top","bottom","divisor"] ["top","bottom"] (defScope s_fraction):=⟨rfl,rfl,rfl,by decide +kernel,rfl,by decide +kernel,by decide +kernel⟩
theorem ok_fraction (d:Dfn K mg "fraction" s_fraction ["top","bottom"]) (er:Errs K mg c_LadderError c_NoBook c_NoFit c_NoGame c_NoNumber c_NoPlayer c_NoRow c_NoStretch c_NoTable c_NoTree c_NoWorth)   (c_greatest_divisor:Cal P w K mg base "greatest_divisor" ["one","other"] 1 (sp_greatest_divisor K ns)) (c_is_whole:Cal P w K mg base "is_whole" ["thing"] 1 (sp_is_whole K ns)):Cal P w K mg base "fraction" ["top","bottom"] 2 (sp_fraction K ns):=by
  refine d.cal (k:=1) sc_fraction (fun vs H Q E h=>?_) (fun f cdv A outer s H vs Q E hr h=>?_)
  · match vs, h with
    | [.int t, .int b], _ => rfl
  · match vs, h with
    | [.int t, .int b], hq0 =>
      obtain ⟨⟨b0, b1⟩, q⟩ := hq0
      refine ⟨_,(@pss_cons _ _ _ _ _ (@s_if _ _ _ _ _ _ _ _ (@L2.PW.pt _ _ _ (@w_or _ _ _ _ _ _ _ (@pt_not _ _ _ _ (@t_val _ _ _ (@e_call _ _ _ _ _ _ _ _ _ _ _ c_is_whole hr (by decide) (by rfl) (@pa_cons _ _ _ _ _ (dv 0) pa_nil (by rfl)) (by decide) (by rfl) (by rfl)) (by intro _; rfl))) (@pw_or1 _ _ _ _ (@pt_not _ _ _ _ (@t_val _ _ _ (@e_call _ _ _ _ _ _ _ _ _ _ _ c_is_whole hr (by decide) (by rfl) (@pa_cons _ _ _ _ _ (dv 1) pa_nil (by rfl)) (by decide) (by rfl) (by rfl)) (by intro _; rfl)))))) (@pss_one _ _ _ ps_never) pss_nil) (@pss_cons _ _ _ _ _ (@s_if _ _ _ _ _ _ _ _ (@t_cmp _ _ _ _ _ _ _ _ o_eq (dv 1) pe_int (@nomark _ _ (by decide) (by decide))) (@pss_one _ _ _ ps_never) pss_nil) (@pss_cons _ _ _ _ _ (@ps_set _ _ (2) _ _ _ _ sc_fraction.nd rfl (by first | exact Or.inl rfl | exact Or.inr rfl) (@e_call _ _ _ _ _ _ _ _ _ _ _ c_greatest_divisor hr (by decide) (by rfl) (@pa_cons _ _ _ _ _ (dv 0) (@pa_cons _ _ _ _ _ (dv 1) pa_nil (by rfl)) (by rfl)) (by decide) (by rfl) (by rfl)) (by rfl) (by first | exact .inl rfl | exact .inr rfl | assumption)) (@pss_cons _ _ _ _ _ (@s_if _ _ _ _ _ _ _ _ (@t_cmp _ _ _ _ _ _ _ _ o_lt (dv 1) pe_int (@nomark _ _ (by decide) (by decide))) (@pss_one _ _ _ (@ps_set _ _ (2) _ _ _ _ sc_fraction.nd rfl (by first | exact Or.inl rfl | exact Or.inr rfl) (@pe_un _ _ _ _ _ _ u_neg (dv 2)) (by rfl) (by first | exact .inl rfl | exact .inr rfl | assumption))) pss_nil) (@pss_one _ _ _ (@ps_ret _ _ _ _ (@e_tup _ _ _ _ _ (@pa_cons _ _ _ _ _ (@pe_op _ _ _ _ _ _ _ _ o_divN (dv 0) (dv 2)) (@pa_cons _ _ _ _ _ (@pe_op _ _ _ _ _ _ _ _ o_divN (dv 1) (dv 2)) pa_nil (by rfl)) (by rfl))))))))),?_⟩
      refine ⟨True.intro,⟨fun h=>nb h,fun _=>⟨True.intro,⟨fun h=>nb h,fun _=>?_⟩⟩⟩⟩
      refine ⟨fun h=>absurd (of_decide_eq_true h) b0,fun _=>?_⟩
      have d0 := dvs_ne t b0
      have d1 := bd_dvs t b0 b1
      have e1 := fdiv_T t b0
      have e2 := fdiv_B t b0
      refine ⟨fun h => ?_, fun h => ?_⟩
      · have h := of_decide_eq_true h
        have e : dvs t b = -(Int.gcd t b : Int) := if_pos h
        rw [e] at d0 d1 e1 e2
        refine ⟨⟨d0,d1⟩,⟨⟨d0,d1⟩,fun p H' s z=>q p H' s ⟨?_⟩⟩⟩
        dsimp only at z
        rw [e1, e2] at z
        exact z
      · have h := of_decide_eq_false h
        have e : dvs t b = (Int.gcd t b : Int) := if_neg h
        rw [e] at d0 d1 e1 e2
        refine ⟨⟨d0,d1⟩,⟨⟨d0,d1⟩,fun p H' s z=>q p H' s ⟨?_⟩⟩⟩
        dsimp only at z
        rw [e1, e2] at z
        exact z
def sp_under (K:PySem.W.Frag) (ns:List Int):Sp:=fun vs H Q _=>match vs with
  | [.ref p,.ref q]=>∃ x y:Q2,Fq 1900 H p x.1 x.2∧Fq 1900 H q y.1 y.2∧Q (.bl (ltQ x y)) H
  | _ => False
theorem sc_under:FnScope ["one","other"] ["one","other"] (defScope s_under):=⟨rfl,rfl,rfl,by decide +kernel,rfl,by decide +kernel,by decide +kernel⟩
theorem ok_under (d:Dfn K mg "under" s_under ["one","other"]) (er:Errs K mg c_LadderError c_NoBook c_NoFit c_NoGame c_NoNumber c_NoPlayer c_NoRow c_NoStretch c_NoTable c_NoTree c_NoWorth)   :Cal P w K mg base "under" ["one","other"] 1 (sp_under K ns):=by
  refine d.cal (k:=0) sc_under (fun vs H Q E h=>?_) (fun f cdv A outer s H vs Q E hr h=>?_)
  · match vs, h with
    | [.ref p, .ref q], _ => rfl
  · match vs, h with
    | [.ref p, .ref q], hq0 =>
      obtain ⟨x, y, h1, h2, k⟩ := hq0
      refine ⟨_,(@pss_one _ _ _ (@ps_ret _ _ _ _ (@pe_cmpR _ _ _ _ _ _ _ _ o_lt (@pe_op _ _ _ _ _ _ _ _ o_mul (@pe_ix _ _ _ _ _ _ _ i_tup (dv 0) pe_int (fun _ _=>rfl)) (@pe_ix _ _ _ _ _ _ _ i_tup (dv 1) pe_int (fun _ _=>rfl))) (@pe_op _ _ _ _ _ _ _ _ o_mul (@pe_ix _ _ _ _ _ _ _ i_tup (dv 1) pe_int (fun _ _=>rfl)) (@pe_ix _ _ _ _ _ _ _ i_tup (dv 0) pe_int (fun _ _=>rfl))) (@nomark _ _ (by decide) (by decide))))),?_⟩
      exact ⟨_,h1.at',_,h2.at',cok h1.ba h2.bb (by decide) (by decide),_,h2.at',_,h1.at',cok h2.ba h1.bb (by decide) (by decide),k⟩
def sp_stretch (K:PySem.W.Frag) (ns:List Int):Sp:=fun vs H Q _=>match vs with
  | [.ref l,.non]=>∀ r H',Same H H'→H' r = some (.tup [.ref l,.non])→Q (.ref r) H'
  | [.ref l,.ref q]=>∃ lo h:Q2,(Fq 1900 H l lo.1 lo.2∧Fq 1900 H q h.1 h.2∧ltQ h lo = false)∧∀ r H',Same H H'→H' r = some (.tup [.ref l,.ref q])→Q (.ref r) H'
  | _ => False
theorem sc_stretch:FnScope ["low","high"] ["low","high"] (defScope s_stretch):=⟨rfl,rfl,rfl,by decide +kernel,rfl,by decide +kernel,by decide +kernel⟩
theorem ok_stretch (d:Dfn K mg "stretch" s_stretch ["low","high"]) (er:Errs K mg c_LadderError c_NoBook c_NoFit c_NoGame c_NoNumber c_NoPlayer c_NoRow c_NoStretch c_NoTable c_NoTree c_NoWorth)   (c_under:Cal P w K mg base "under" ["one","other"] 1 (sp_under K ns)):Cal P w K mg base "stretch" ["low","high"] 2 (sp_stretch K ns):=by
  refine d.cal (k:=1) sc_stretch (fun vs H Q E h=>?_) (fun f cdv A outer s H vs Q E hr h=>?_)
  · match vs, h with
    | [.ref _, .non], _ => rfl
    | [.ref _, .ref _], _ => rfl
  · refine ⟨_,(@pss_cons _ _ _ _ _ (@s_if _ _ _ _ _ _ _ _ (@L2.PW.pt _ _ _ (@w_and _ _ _ _ _ _ _ (@t_notN _ _ _ _ _ _ (dv 1)) (@pw_and1 _ _ _ _ (@t_val _ _ _ (@e_call _ _ _ _ _ _ _ _ _ _ _ c_under hr (by decide) (by rfl) (@pa_cons _ _ _ _ _ (dv 1) (@pa_cons _ _ _ _ _ (dv 0) pa_nil (by rfl)) (by rfl)) (by decide) (by rfl) (by rfl)) (by intro _; rfl))))) (@pss_one _ _ _ ps_never) pss_nil) (@pss_one _ _ _ (@ps_ret _ _ _ _ (@e_tup _ _ _ _ _ (@pa_cons _ _ _ _ _ (dv 0) (@pa_cons _ _ _ _ _ (dv 1) pa_nil (by rfl)) (by rfl)))))),?_⟩
    match vs, h with
    | [.ref l,.non],k=>exact ⟨fun h=>absurd h (by decide),fun _=>⟨fun h=>absurd h (by decide),fun _=>k⟩⟩
    | [.ref l,.ref q],⟨lo,x,⟨h1,h2,h3⟩,k⟩=>exact ⟨fun _=>⟨x,lo,h2,h1,⟨fun h=>absurd h (by rw [h3]; decide),fun _=>k⟩⟩,fun h=>absurd h (by simp)⟩
def odA (x y z:Q2) (s:Int):Int:=if s = 0 then x.1 * y.2 else if s = 1 then x.1 * y.2 * z.1 else x.1 * y.2 * z.2
def odB (x y z:Q2) (s:Int):Int:=if s = 0 then y.1 * x.2 else if s = 1 then y.1 * x.2 * z.2 else y.1 * x.2 * z.1
theorem odA_pos {x y z:Q2} {s:Int} (h1:0 < x.1) (h2:0 < y.2) (h3:0 < z.1) (h4:0 < z.2):0 < odA x y z s:=by
  unfold odA
  have := Int.mul_pos h1 h2
  split
  · assumption
  · split
    · exact Int.mul_pos this h3
    · exact Int.mul_pos this h4
theorem odA_bd {n:Nat} {x y z:Q2} {s:Int} (h1:Bd n x.1) (h2:Bd n y.2) (h3:Bd n z.1) (h4:Bd n z.2):Bd (n + n + n) (odA x y z s):=by
  unfold odA
  split
  · exact (h1.mul h2).mono (by omega)
  · split
    · exact (h1.mul h2).mul h3
    · exact (h1.mul h2).mul h4
theorem odB_bd {n:Nat} {x y z:Q2} {s:Int} (h1:Bd n y.1) (h2:Bd n x.2) (h3:Bd n z.1) (h4:Bd n z.2):Bd (n + n + n) (odB x y z s):=by
  unfold odB
  split
  · exact (h1.mul h2).mono (by omega)
  · split
    · exact (h1.mul h2).mul h4
    · exact (h1.mul h2).mul h3
def sp_odds (K:PySem.W.Frag) (ns:List Int):Sp:=fun vs H Q _=>match vs with
  | [.ref p,.ref q,.int s,.ref e]=>∃ x y z:Q2,(Fq 1200 H p x.1 x.2∧Fq 1200 H q y.1 y.2∧Fq 1200 H e z.1 z.2)∧∀ r H',Same H H'→H' r = some (.tup [.int (odA x y z s),.int (odB x y z s)])→Q (.ref r) H'
  | [.ref p,.ref q,.int s,.non]=>∃ x y:Q2,(Fq 1200 H p x.1 x.2∧Fq 1200 H q y.1 y.2)∧∀ r H',Same H H'→H' r = some (.tup [.int (odA x y (1,1) s),.int (odB x y (1,1) s)])→Q (.ref r) H'
  | _ => False
theorem sc_odds:FnScope ["worth","other","side","edge","mine","theirs"] ["worth","other","side","edge"] (defScope s_odds):=⟨rfl,rfl,rfl,by decide +kernel,rfl,by decide +kernel,by decide +kernel⟩
theorem ok_odds (d:Dfn K mg "odds" s_odds ["worth","other","side","edge"]) (er:Errs K mg c_LadderError c_NoBook c_NoFit c_NoGame c_NoNumber c_NoPlayer c_NoRow c_NoStretch c_NoTable c_NoTree c_NoWorth)   :Cal P w K mg base "odds" ["worth","other","side","edge"] 1 (sp_odds K ns):=by
  refine d.cal (k:=0) sc_odds (fun vs H Q E h=>?_) (fun f cdv A outer s H vs Q E hr h=>?_)
  · match vs, h with
    | [.ref _, .ref _, .int _, .ref _], _ => rfl
    | [.ref _, .ref _, .int _, .non], _ => rfl
  · refine ⟨_,(@pss_cons _ _ _ _ _ (@ps_set _ _ (4) _ _ _ _ sc_odds.nd rfl (by first | exact Or.inl rfl | exact Or.inr rfl) (@pe_op _ _ _ _ _ _ _ _ o_mul (@pe_ix _ _ _ _ _ _ _ i_tup (dv 0) pe_int (fun _ _=>rfl)) (@pe_ix _ _ _ _ _ _ _ i_tup (dv 1) pe_int (fun _ _=>rfl))) (by rfl) (by first | exact .inl rfl | exact .inr rfl | assumption)) (@pss_cons _ _ _ _ _ (@ps_set _ _ (5) _ _ _ _ sc_odds.nd rfl (by first | exact Or.inl rfl | exact Or.inr rfl) (@pe_op _ _ _ _ _ _ _ _ o_mul (@pe_ix _ _ _ _ _ _ _ i_tup (dv 1) pe_int (fun _ _=>rfl)) (@pe_ix _ _ _ _ _ _ _ i_tup (dv 0) pe_int (fun _ _=>rfl))) (by rfl) (by first | exact .inl rfl | exact .inr rfl | assumption)) (@pss_cons _ _ _ _ _ (@s_if _ _ _ _ _ _ _ _ (@L2.PW.pt _ _ _ (@w_or _ _ _ _ _ _ _ (@t_cmp _ _ _ _ _ _ _ _ o_eq (dv 2) pe_int (@nomark _ _ (by decide) (by decide))) (@pw_or1 _ _ _ _ (@t_isN _ _ _ _ _ _ (dv 3))))) (@pss_one _ _ _ (@ps_ret _ _ _ _ (@e_tup _ _ _ _ _ (@pa_cons _ _ _ _ _ (dv 4) (@pa_cons _ _ _ _ _ (dv 5) pa_nil (by rfl)) (by rfl))))) pss_nil) (@pss_cons _ _ _ _ _ (@s_if _ _ _ _ _ _ _ _ (@t_cmp _ _ _ _ _ _ _ _ o_eq (dv 2) pe_int (@nomark _ _ (by decide) (by decide))) (@pss_one _ _ _ (@ps_ret _ _ _ _ (@e_tup _ _ _ _ _ (@pa_cons _ _ _ _ _ (@pe_op _ _ _ _ _ _ _ _ o_mul (dv 4) (@pe_ix _ _ _ _ _ _ _ i_tup (dv 3) pe_int (fun _ _=>rfl))) (@pa_cons _ _ _ _ _ (@pe_op _ _ _ _ _ _ _ _ o_mul (dv 5) (@pe_ix _ _ _ _ _ _ _ i_tup (dv 3) pe_int (fun _ _=>rfl))) pa_nil (by rfl)) (by rfl))))) pss_nil) (@pss_one _ _ _ (@ps_ret _ _ _ _ (@e_tup _ _ _ _ _ (@pa_cons _ _ _ _ _ (@pe_op _ _ _ _ _ _ _ _ o_mul (dv 4) (@pe_ix _ _ _ _ _ _ _ i_tup (dv 3) pe_int (fun _ _=>rfl))) (@pa_cons _ _ _ _ _ (@pe_op _ _ _ _ _ _ _ _ o_mul (dv 5) (@pe_ix _ _ _ _ _ _ _ i_tup (dv 3) pe_int (fun _ _=>rfl))) pa_nil (by rfl)) (by rfl))))))))),?_⟩
    match vs, h with
    | [.ref p,.ref q,.int sd,.ref e],⟨x,y,z,⟨h1,h2,h3⟩,k⟩ =>
      refine ⟨_,h1.at',_,h2.at',cok h1.ba h2.bb (by decide) (by decide),_,h2.at',_,h1.at',cok h2.ba h1.bb (by decide) (by decide),?_⟩
      have m1 : Bd 2400 (x.1 * y.2) := h1.ba.mul h2.bb
      have m2 : Bd 2400 (y.1 * x.2) := h2.ba.mul h1.bb
      refine ⟨fun h=>⟨fun _ r H' s e=>k r H' s ?_,fun h=>absurd h (by decide)⟩,fun h=>⟨fun h=>absurd h (by simp),fun _=>⟨fun h'=>?_,fun h'=>?_⟩⟩⟩
      · have hs : sd = 0 := of_decide_eq_true h
        simpa [odA, odB, hs] using e
      · have hs : ¬ sd = 0 := of_decide_eq_false h
        have hs' : sd = 1 := of_decide_eq_true h'
        refine ⟨_,h3.at',cok m1 h3.ba (by decide) (by decide),_,h3.at',cok m2 h3.bb (by decide) (by decide),fun r H' s e=>k r H' s ?_⟩
        simpa [odA, odB, hs'] using e
      · have hs : ¬ sd = 0 := of_decide_eq_false h
        have hs' : ¬ sd = 1 := of_decide_eq_false h'
        refine ⟨_,h3.at',cok m1 h3.bb (by decide) (by decide),_,h3.at',cok m2 h3.ba (by decide) (by decide),fun r H' s e=>k r H' s ?_⟩
        simpa [odA, odB, hs, hs'] using e
    | [.ref p,.ref q,.int sd,.non],⟨x,y,⟨h1,h2⟩,k⟩ =>
      refine ⟨_,h1.at',_,h2.at',cok h1.ba h2.bb (by decide) (by decide),_,h2.at',_,h1.at',cok h2.ba h1.bb (by decide) (by decide),?_⟩
      have fin:∀ r H',Same H H'→H' r = some (.tup [.int (x.1 * y.2),.int (y.1 * x.2)])→Q (.ref r) H':=fun r H' s e=>k r H' s (by simpa [odA,odB] using e)
      exact ⟨fun _=>⟨fun _=>fin,fun h=>absurd h (by decide)⟩,fun _=>⟨fun _=>fin,fun h=>absurd h (by simp)⟩⟩
theorem rpI2 {K:PySem.W.Frag} {H:Hp} {p:Addr} {a b:Int} (h:H p = some (.tup [.int a,.int b])):Rp K H (.ref p) (.tuple [.int a,.int b]):=.tup (SqT.of h) (.cons (.int _) (.cons (.int _) .nil))
def sp_turned (K:PySem.W.Frag) (ns:List Int):Sp:=fun vs H Q _=>match vs with
  | [.ref p]=>∃ g:Gm,GmAt H (.ref p) g∧∀ y H',Same H H'→GmAt H' y (trn g)→Q y H'
  | _ => False
theorem sc_turned:FnScope ["played"] ["played"] (defScope s_turned):=⟨rfl,rfl,rfl,by decide +kernel,rfl,by decide +kernel,by decide +kernel⟩
theorem ok_turned (d:Dfn K mg "turned" s_turned ["played"]) (er:Errs K mg c_LadderError c_NoBook c_NoFit c_NoGame c_NoNumber c_NoPlayer c_NoRow c_NoStretch c_NoTable c_NoTree c_NoWorth)   :Cal P w K mg base "turned" ["played"] 1 (sp_turned K ns):=by
  refine d.cal (k:=0) sc_turned (fun vs H Q E h=>?_) (fun f cdv A outer s H vs Q E hr h=>?_)
  · match vs, h with
    | [.ref p], _ => rfl
  · match vs, h with
    | [.ref p], hq0 =>
      obtain ⟨g, ⟨_, e, h⟩, k⟩ := hq0
      refine ⟨_,(@pss_one _ _ _ (@ps_ret _ _ _ _ (@e_tup _ _ _ _ _ (@pa_cons _ _ _ _ _ (@pe_ix _ _ _ _ _ _ _ i_tup (dv 0) pe_int (fun _ _=>rfl)) (@pa_cons _ _ _ _ _ (@pe_ix _ _ _ _ _ _ _ i_tup (dv 0) pe_int (fun _ _=>rfl)) (@pa_cons _ _ _ _ _ (@pe_ix _ _ _ _ _ _ _ i_tup (dv 0) pe_int (fun _ _=>rfl)) (@pa_cons _ _ _ _ _ (@pe_op _ _ _ _ _ _ _ _ o_sub pe_int (@pe_ix _ _ _ _ _ _ _ i_tup (dv 0) pe_int (fun _ _=>rfl))) (@pa_cons _ _ _ _ _ (@pe_un _ _ _ _ _ _ u_neg (@pe_ix _ _ _ _ _ _ _ i_tup (dv 0) pe_int (fun _ _=>rfl))) pa_nil (by rfl)) (by rfl)) (by rfl)) (by rfl)) (by rfl))))),?_⟩
      cases e
      exact ⟨_,h,_,h,_,h,_,h,_,h,fun r H' s e=>k _ H' s ⟨r,rfl,e⟩⟩
theorem none_back {H H':Hp} {D:Addr} (s:Same H H') (h:H' D = none):H D = none:=by
  cases e : H D with
  | none => rfl
  | some o =>
    rw [s _ _ e] at h
    cases h
def sp_players (K:PySem.W.Frag) (ns:List Int):Sp:=fun vs H Q _=>match vs with
  | [.ref L]=>∃ gs,(Bk K H L gs∧(plr gs).length < 64)∧∀ D H',Same H H'→H D = none→H' D = some (.lst ((plr gs).map V.str))→Q (.ref D) H'
  | _ => False
theorem sc_players:FnScope ["games"] ["games"] (defScope s_players):=⟨rfl,rfl,rfl,by decide +kernel,rfl,by decide +kernel,by decide +kernel⟩
theorem ok_players (d:Dfn K mg "players" s_players ["games"]) (er:Errs K mg c_LadderError c_NoBook c_NoFit c_NoGame c_NoNumber c_NoPlayer c_NoRow c_NoStretch c_NoTable c_NoTree c_NoWorth) (n_sorted:mg "sorted" = none) (n_set:mg "set" = none)  :Cal P w K mg base "players" ["games"] 1 (sp_players K ns):=by
  refine d.cal (k:=0) sc_players (fun vs H Q E h=>?_) (fun f cdv A outer s H vs Q E hr h=>?_)
  · match vs, h with
    | [.ref L], _ => rfl
  · match vs, h with
    | [.ref L], hq0 =>
      obtain ⟨gs, ⟨⟨vs, hx, hm, hl⟩, h64⟩, k⟩ := hq0
      refine ⟨_,(@pss_one _ _ _ (@ps_ret _ _ _ _ (@e_sset _ _ _ _ _ _ _ (by rfl) n_sorted (by rfl) n_set (@pe_op _ _ _ _ _ _ _ _ o_catL (@e_compN _ _ _ _ _ _ _ _ _ _ ["played"] [] [] rfl (@pi_list _ _ _ _ (dv 0)) (fun C s H fp=>(@pg_name _ _ (0) _ (show List.Nodup [("played":Str)] by decide +kernel) rfl (by first | exact Or.inl rfl | exact Or.inr rfl) (by first | exact .inl rfl | exact .inr rfl | assumption))) (fun C s H fp=>(@pe_ix _ _ _ _ _ _ _ i_tup (dv 0) pe_int (fun _ _=>rfl))) rfl rfl (by decide +kernel) (by decide +kernel) (by rfl) True.intro True.intro (by intro _; rfl)) (@e_compN _ _ _ _ _ _ _ _ _ _ ["played"] [] [] rfl (@pi_list _ _ _ _ (dv 0)) (fun C s H fp=>(@pg_name _ _ (0) _ (show List.Nodup [("played":Str)] by decide +kernel) rfl (by first | exact Or.inl rfl | exact Or.inr rfl) (by first | exact .inl rfl | exact .inr rfl | assumption))) (fun C s H fp=>(@pe_ix _ _ _ _ _ _ _ i_tup (dv 0) pe_int (fun _ _=>rfl))) rfl rfl (by decide +kernel) (by decide +kernel) (by rfl) True.intro True.intro (by intro _; rfl))) (by rfl) (by rfl) (by rfl)))),?_⟩
      have hz : vs.length ≤ 1000 := by rw [hm.len]; omega
      refine ⟨L,rfl,⟨_,hx⟩,comp_abs GmAt gm_up (fun _ g y=>y = V.str g.a) (fun _ _ _ _ _ h=>h) hz hx hm ?_ ?_⟩
      · intro v m H2 hM _ s2 P hP
        obtain ⟨p, rfl, e⟩ := hM
        exact ⟨rfl, _, e, hP _ _ (Same.refl _) rfl⟩
      intro D1 H1 ys1 s1 _ e1 a1
      have y1 := all2_strs a1
      have hm1:All2 (GmAt H1) vs gs:=hm.imp fun v g r=>gm_up v g _ _ (kt_of s1) r
      refine ⟨L,rfl,⟨_,s1.seq hx⟩,comp_abs GmAt gm_up (fun _ g y=>y = V.str g.b) (fun _ _ _ _ _ h=>h) hz (s1.seq hx) hm1 ?_ ?_⟩
      · intro v m H2 hM _ s2 P hP
        obtain ⟨p, rfl, e⟩ := hM
        exact ⟨rfl, _, e, hP _ _ (Same.refl _) rfl⟩
      intro D2 H2 ys2 s2 _ e2 a2
      have y2 := all2_strs a2
      have l1 := a1.len
      have l2 := a2.len
      refine ⟨_,_,s2 _ _ e1,e2,by omega,fun D3 H3 s3 e3=>⟨gs.map (·.a) ++ gs.map (·.b),SqL.of ?_,?_,h64,fun D hD=>?_⟩⟩
      · rw [e3, y1, y2, List.map_append]
      · rw [List.length_append,List.length_map,List.length_map]
        omega
      · have s := s1.trans (s2.trans s3)
        exact k D _ (s.trans (same_upd hD)) (none_back s hD) upd_same
theorem in_strs (n:Str) (l:List Str):inV (.str n) (l.map V.str) = decide (n ∈ l):=by
  unfold inV
  rw [List.any_map]
  by_cases h : n ∈ l
  · rw [decide_eq_true h, List.any_eq_true]
    exact ⟨n, h, by show (n == n) = true; simp⟩
  · rw [decide_eq_false h, List.any_eq_false]
    intro x hx e
    have e : (x == n) = true := e
    exact h (eq_of_beq e ▸ hx)
theorem flat_strs (l:List Str):(l.map V.str).all flatV = true:=by
  rw [List.all_map]
  exact List.all_eq_true.mpr fun _ _ => rfl
def sp_told_by (K:PySem.W.Frag) (ns:List Int):Sp:=fun vs H Q _=>match vs with
  | [.ref L,.str n]=>∃ gs,Bk K H L gs∧∀ D H',Same H H'→H D = none→Bk K H' D (tld n gs)→Q (.ref D) H'
  | _ => False
theorem sc_told_by:FnScope ["games","name","own"] ["games","name"] (defScope s_told_by):=⟨rfl,rfl,rfl,by decide +kernel,rfl,by decide +kernel,by decide +kernel⟩
theorem ok_told_by (d:Dfn K mg "told_by" s_told_by ["games","name"]) (er:Errs K mg c_LadderError c_NoBook c_NoFit c_NoGame c_NoNumber c_NoPlayer c_NoRow c_NoStretch c_NoTable c_NoTree c_NoWorth)   (c_turned:Cal P w K mg base "turned" ["played"] 1 (sp_turned K ns)):Cal P w K mg base "told_by" ["games","name"] 2 (sp_told_by K ns):=by
  refine d.cal (k:=1) sc_told_by (fun vs H Q E h=>?_) (fun f cdv A outer s H vs Q E hr h=>?_)
  · match vs, h with
    | [.ref L, .str n], _ => rfl
  · match vs, h with
    | [.ref L, .str n], hq0 =>
      obtain ⟨gs, ⟨vs, hx, hm, hl⟩, k⟩ := hq0
      refine ⟨_,(@pss_cons _ _ _ _ _ (@ps_compIN _ _ _ _ _ _ _ _ _ (2) _ _ _ _ _ _ ["played"] ["name"] [1] rfl (@pi_list _ _ _ _ (dv 0)) (fun C s H fp=>(@pg_name _ _ (0) _ (show List.Nodup [("played":Str),("name":Str)] by decide +kernel) rfl (by first | exact Or.inl rfl | exact Or.inr rfl) (by first | exact .inl rfl | exact .inr rfl | assumption))) (fun C s H fp=>(@t_cmp _ _ _ _ _ _ _ _ (show OpR _ _ (dInS K) from o_in) (dv 1) (@e_tup _ _ _ _ _ (@pa_cons _ _ _ _ _ (@pe_ix _ _ _ _ _ _ _ i_tup (dv 0) pe_int (fun _ _=>rfl)) (@pa_cons _ _ _ _ _ (@pe_ix _ _ _ _ _ _ _ i_tup (dv 0) pe_int (fun _ _=>rfl)) pa_nil (by rfl)) (by rfl))) (by with_unfolding_all rfl))) (fun C s H fp=>(dv 0)) rfl rfl (by decide +kernel) (by decide +kernel) (by rfl) ⟨rfl,True.intro⟩ ⟨⟨rfl,rfl,rfl,rfl⟩,True.intro⟩ sc_told_by.nd rfl rfl (by intro _; rfl) (by rfl)) (@pss_one _ _ _ (@ps_ret _ _ _ _ (@e_compN _ _ _ _ _ _ _ _ _ _ ["played"] ["name"] [1] rfl (@pi_list _ _ _ _ (dv 2)) (fun C s H fp=>(@pg_name _ _ (0) _ (show List.Nodup [("played":Str),("name":Str)] by decide +kernel) rfl (by first | exact Or.inl rfl | exact Or.inr rfl) (by first | exact .inl rfl | exact .inr rfl | assumption))) (fun C s H fp=>(@e_if _ _ _ _ _ _ _ _ (@t_cmp _ _ _ _ _ _ _ _ o_eq (@pe_ix _ _ _ _ _ _ _ i_tup (dv 0) pe_int (fun _ _=>rfl)) (dv 1) (@nomark _ _ (by decide) (by decide))) (dv 0) (@e_call _ _ _ _ _ _ _ _ _ _ _ c_turned hr (by decide) (by rfl) (@pa_cons _ _ _ _ _ (dv 0) pa_nil (by rfl)) (by decide) (by rfl) (by rfl)))) rfl rfl (by decide +kernel) (by decide +kernel) (by rfl) ⟨rfl,True.intro⟩ ⟨⟨rfl,rfl,rfl,rfl⟩,True.intro⟩ (by intro _; rfl))))),?_⟩
      have hz : vs.length ≤ 1000 := by rw [hm.len]; omega
      refine ⟨L,rfl,⟨_,hx⟩,comp_absI GmAt gm_up (fun H g y=>GmAt H y g) (fun g y H H' kt h=>gm_up y g H H' kt h) (isIn n) hz hx hm ?_ ?_⟩
      · intro v m H2 hM _ s2 P P' hP hP'
        obtain ⟨p, rfl, e⟩ := hM
        refine ⟨rfl,_,e,_,e,fun T H3 s3 e3=>⟨_,.inr (SqT.of e3),rfl,rfl,⟨fun h=>?_,fun h=>?_⟩⟩⟩
        · have h:inV (.str n) ([m.a,m.b].map V.str) = true:=h
          rw [in_strs] at h
          have h := of_decide_eq_true h
          refine hP ?_ _ _ s3 ⟨p, rfl, s3 _ _ e⟩
          unfold isIn
          simpa using h
        · have h:inV (.str n) ([m.a,m.b].map V.str) = false:=h
          rw [in_strs] at h
          have h := of_decide_eq_false h
          refine hP' ?_ _ s3
          unfold isIn
          simpa using h
      intro D1 H1 ys1 s1 d1 e1 a1
      have al:All2 (GmAt H1) ys1 (gs.filter (isIn n)):=all2_flip a1
      have zl:(gs.filter (isIn n)).length ≤ gs.length:=List.length_filter_le _ _
      refine ⟨D1,rfl,⟨_,SqL.of e1⟩,comp_abs GmAt gm_up (fun H g y=>GmAt H y (toldG n g)) (fun g y H H' kt h=>gm_up y _ H H' kt h) (by rw [al.len]; omega) (SqL.of e1) al ?_ ?_⟩
      · intro v m H2 hM _ s2 P hP
        obtain ⟨p, rfl, e⟩ := hM
        refine ⟨rfl, _, e, ⟨fun h => ?_, fun h => ?_⟩⟩
        · have h := of_decide_eq_true h
          refine hP _ _ (Same.refl _) ?_
          rw [show toldG n m = m from if_pos h]
          exact ⟨p, rfl, e⟩
        · have h := of_decide_eq_false h
          refine ⟨m,⟨p,rfl,e⟩,fun y H3 s3 g3=>hP _ _ s3 ?_⟩
          rw [show toldG n m = trn m from if_neg h]
          exact g3
      intro D2 H2 ys2 s2 d2 e2 a2
      refine k D2 H2 (s1.trans s2) (none_back s1 d2) ⟨ys2,SqL.of e2,all2_map a2,?_⟩
      unfold tld
      rw [List.length_map]
      omega
def sp_takers (K:PySem.W.Frag) (ns:List Int):Sp:=fun vs H Q _=>match vs with
  | [.ref L,.str n]=>∃ gs,(Bk K H L gs∧(tkr n gs).length < 64)∧∀ D H',Same H H'→H D = none→H' D = some (.lst ((tkr n gs).map V.str))→Q (.ref D) H'
  | _ => False
theorem sc_takers:FnScope ["games","name"] ["games","name"] (defScope s_takers):=⟨rfl,rfl,rfl,by decide +kernel,rfl,by decide +kernel,by decide +kernel⟩
theorem ok_takers (d:Dfn K mg "takers" s_takers ["games","name"]) (er:Errs K mg c_LadderError c_NoBook c_NoFit c_NoGame c_NoNumber c_NoPlayer c_NoRow c_NoStretch c_NoTable c_NoTree c_NoWorth) (n_sorted:mg "sorted" = none) (n_set:mg "set" = none)  (c_told_by:Cal P w K mg base "told_by" ["games","name"] 2 (sp_told_by K ns)):Cal P w K mg base "takers" ["games","name"] 3 (sp_takers K ns):=by
  refine d.cal (k:=2) sc_takers (fun vs H Q E h=>?_) (fun f cdv A outer s H vs Q E hr h=>?_)
  · match vs, h with
    | [.ref L, .str n], _ => rfl
  · match vs, h with
    | [.ref L, .str n], hq0 =>
      obtain ⟨gs, ⟨hB, h64⟩, k⟩ := hq0
      refine ⟨_,(@pss_one _ _ _ (@ps_ret _ _ _ _ (@e_sset _ _ _ _ _ _ _ (by rfl) n_sorted (by rfl) n_set (@e_compIN _ _ _ _ _ _ _ _ _ _ _ _ ["played"] [] [] rfl (@pi_list _ _ _ _ (@e_call _ _ _ _ _ _ _ _ _ _ _ c_told_by hr (by decide) (by rfl) (@pa_cons _ _ _ _ _ (dv 0) (@pa_cons _ _ _ _ _ (dv 1) pa_nil (by rfl)) (by rfl)) (by decide) (by rfl) (by rfl))) (fun C s H fp=>(@pg_name _ _ (0) _ (show List.Nodup [("played":Str)] by decide +kernel) rfl (by first | exact Or.inl rfl | exact Or.inr rfl) (by first | exact .inl rfl | exact .inr rfl | assumption))) (fun C s H fp=>(@t_cmp _ _ _ _ _ _ _ _ o_lt (@pe_ix _ _ _ _ _ _ _ i_tup (dv 0) pe_int (fun _ _=>rfl)) pe_int (@nomark _ _ (by decide) (by decide)))) (fun C s H fp=>(@pe_ix _ _ _ _ _ _ _ i_tup (dv 0) pe_int (fun _ _=>rfl))) rfl rfl (by decide +kernel) (by decide +kernel) (by rfl) True.intro True.intro (by intro _; rfl)) (by rfl) (by rfl) (by rfl)))),?_⟩
      refine ⟨gs,hB,fun D1 H1 s1 d1 ⟨vs,hx,hm,hl⟩=>?_⟩
      refine ⟨D1,rfl,⟨_,hx⟩,comp_absI GmAt gm_up (fun _ g y=>y = V.str g.b) (fun _ _ _ _ _ h=>h) (fun g=>decide (g.h < 2)) (by rw [hm.len]; omega) hx hm ?_ ?_⟩
      · intro v m H2 hM _ s2 P P' hP hP'
        obtain ⟨p, rfl, e⟩ := hM
        exact ⟨rfl,_,e,⟨fun h=>⟨_,e,hP h _ _ (Same.refl _) rfl⟩,fun h=>hP' h _ (Same.refl _)⟩⟩
      intro D2 H2 ys2 s2 d2 e2 a2
      have y2 := all2_strs a2
      have zl:((tld n gs).filter fun g=>decide (g.h < 2)).length ≤ (tld n gs).length:=List.length_filter_le _ _
      refine ⟨List.map Gm.b (List.filter (fun g:Gm=>decide (g.h < 2)) (tld n gs)),SqL.of (by rw [e2,y2]),by rw [List.length_map]; omega,h64,fun D hD=>?_⟩
      have s := s1.trans s2
      exact k D _ (s.trans (same_upd hD)) (none_back s hD) upd_same
def sp_check_player (K:PySem.W.Frag) (ns:List Int):Sp:=fun vs H Q E=>match vs with
  | [.ref L,.str n]=>∃ gs,(Bk K H L gs∧(plr gs).length < 64)∧(n ∈ plr gs→∀ H',Same H H'→Q .non H')∧(n ∉ plr gs→∀ H',Same H H'→ExN K "NoPlayer" E H')
  | _ => False
theorem sc_check_player:FnScope ["games","name"] ["games","name"] (defScope s_check_player):=⟨rfl,rfl,rfl,by decide +kernel,rfl,by decide +kernel,by decide +kernel⟩
theorem ok_check_player (d:Dfn K mg "check_player" s_check_player ["games","name"]) (er:Errs K mg c_LadderError c_NoBook c_NoFit c_NoGame c_NoNumber c_NoPlayer c_NoRow c_NoStretch c_NoTable c_NoTree c_NoWorth)   (c_players:Cal P w K mg base "players" ["games"] 1 (sp_players K ns)):Cal P w K mg base "check_player" ["games","name"] 2 (sp_check_player K ns):=by
  refine d.calX (k:=1) sc_check_player (fun vs H Q E h=>?_) (fun f cdv A outer s H vs Q E hr h=>?_)
  · match vs, h with
    | [.ref L, .str n], _ => rfl
  · match vs, h with
    | [.ref L, .str n], hq0 =>
      obtain ⟨gs, ⟨hB, h64⟩, k1, k2⟩ := hq0
      refine ⟨_,(@pss_one _ _ _ (@s_if _ _ _ _ _ _ _ _ (@t_cmp _ _ _ _ _ _ _ _ o_notin (dv 1) (@e_call _ _ _ _ _ _ _ _ _ _ _ c_players hr (by decide) (by rfl) (@pa_cons _ _ _ _ _ (dv 0) pa_nil (by rfl)) (by decide) (by rfl) (by rfl)) (by with_unfolding_all rfl)) (@pss_one _ _ _ (@ps_raise _ _ _ _ _ _ _ _ _ _ _ _ _ _ _ _ _ _ _ _ _ _ _ er.b_NoPlayer er.z_NoPlayer (by rfl) (by decide))) pss_nil)),?_⟩
      refine ⟨gs,⟨hB,h64⟩,fun D1 H1 s1 d1 e1=>⟨_,.inl (SqL.of e1),rfl,flat_strs _,?_⟩⟩
      rw [in_strs]
      refine ⟨fun h => ?_, fun h => ?_⟩
      · have h : n ∉ plr gs := by simpa using h
        exact k2 h H1 s1 _ er.y_NoPlayer
      · have h : n ∈ plr gs := by simpa using h
        exact k1 h H1 s1
def sp_ways_from (K:PySem.W.Frag) (ns:List Int):Sp:=fun vs H Q _=>match vs with
  | [.ref L,.str n]=>∃ (gs:List Gm) (nm:List Str),(Bk K H L gs∧(∀ g ∈ gs,g.a ∈ nm∧g.b ∈ nm)∧nm.length ≤ 60∧n ∈ nm∧∀ x ∈ nm,PyData.strOk x = true)∧∀ D kvs (ks:List Str) H',Same H H'→H D = none→H' D = some (.dK kvs)→kvs.map (·.1) = ks.map Sum.inr→ks.Nodup→(∀ x,x ∈ ks ↔ Rch gs n x)→Q (.ref D) H'
  | _ => False
theorem sc_ways_from:FnScope ["games","name","ways","newest","reached","last","taker"] ["games","name"] (defScope s_ways_from):=⟨rfl,rfl,rfl,by decide +kernel,rfl,by decide +kernel,by decide +kernel⟩
theorem ok_ways_from (d:Dfn K mg "ways_from" s_ways_from ["games","name"]) (er:Errs K mg c_LadderError c_NoBook c_NoFit c_NoGame c_NoNumber c_NoPlayer c_NoRow c_NoStretch c_NoTable c_NoTree c_NoWorth)   (c_takers:Cal P w K mg base "takers" ["games","name"] 3 (sp_takers K ns)):Cal P w K mg base "ways_from" ["games","name"] 4 (sp_ways_from K ns):=by
  refine d.cal (k:=3) sc_ways_from (fun vs H Q E h=>?_) (fun f cdv A outer s H vs Q E hr h=>?_)
  · match vs, h with
    | [.ref L, .str n], _ => rfl
  · match vs, h with
    | [.ref L, .str n], hq0 =>
      obtain ⟨gs, nm, ⟨hB, hm, l60, hn, sok⟩, q⟩ := hq0
      refine ⟨_,(@pss_cons _ _ _ _ _ (@ps_set _ _ (2) _ _ _ _ sc_ways_from.nd rfl (by first | exact Or.inl rfl | exact Or.inr rfl) (@pe_disp _ _ _ _ _ (@pps_cons _ _ _ _ _ _ _ _ _ (dv 1) (@pe_lst _ _ _ _ (@pa_cons _ _ _ _ _ (dv 1) pa_nil (by rfl))) pps_nil) rfl rfl (by simp) (by decide)) (by rfl) (by first | exact .inl rfl | exact .inr rfl | assumption)) (@pss_cons _ _ _ _ _ (@ps_set _ _ (3) _ _ _ _ sc_ways_from.nd rfl (by first | exact Or.inl rfl | exact Or.inr rfl) (@pe_lst _ _ _ _ (@pa_cons _ _ _ _ _ (dv 1) pa_nil (by rfl))) (by rfl) (by first | exact .inl rfl | exact .inr rfl | assumption)) (@pss_cons _ _ _ _ _ (@s_while _ _ _ _ _ _ PassesOwn.never (@t_cmp _ _ _ _ _ _ _ _ (@o_neD _ hr.units) (dv 3) (@pe_lst _ _ _ _ pa_nil) (@nomark _ _ (by decide) (by decide))) (@pss_cons _ _ _ _ _ (@ps_set _ _ (4) _ _ _ _ sc_ways_from.nd rfl (by first | exact Or.inl rfl | exact Or.inr rfl) (@pe_lst _ _ _ _ pa_nil) (by rfl) (by first | exact .inl rfl | exact .inr rfl | assumption)) (@pss_cons _ _ _ _ _ (@ps_for _ _ _ _ _ _ _ _ PassesOwn.never rfl (@pi_list _ _ _ _ (dv 3)) (@pg_name _ _ (5) _ sc_ways_from.nd rfl (by first | exact Or.inl rfl | exact Or.inr rfl) (by first | exact .inl rfl | exact .inr rfl | assumption)) (@pss_one _ _ _ (@ps_for _ _ _ _ _ _ _ _ PassesOwn.never rfl (@pi_list _ _ _ _ (@e_call _ _ _ _ _ _ _ _ _ _ _ c_takers hr (by decide) (by rfl) (@pa_cons _ _ _ _ _ (dv 0) (@pa_cons _ _ _ _ _ (dv 5) pa_nil (by rfl)) (by rfl)) (by decide) (by rfl) (by rfl))) (@pg_name _ _ (6) _ sc_ways_from.nd rfl (by first | exact Or.inl rfl | exact Or.inr rfl) (by first | exact .inl rfl | exact .inr rfl | assumption)) (@pss_one _ _ _ (@s_if _ _ _ _ _ _ _ _ (@t_dnotin _ _ _ _ _ _ (@u1 _ _ hr.units) (dv 6) (dv 2) (by with_unfolding_all rfl)) (@pss_cons _ _ _ _ _ (@ps_dput _ _ _ _ _ _ _ _ _ (@u1 _ _ hr.units) (dv 2) (dv 6) (@pe_op _ _ _ _ _ _ _ _ op_cat (@pe_dget _ _ _ _ _ _ (@u1 _ _ hr.units) (dv 2) (dv 5) (fun _ _=>rfl)) (@pe_lst _ _ _ _ (@pa_cons _ _ _ _ _ (dv 6) pa_nil (by rfl)))) rfl) (@pss_one _ _ _ (@ps_expr _ _ _ _ (@pe_bm _ _ _ _ _ _ _ _ _ _ _ _ PySem.F.plainAttrs_list PySem.F.slot_list_append PySem.F.type_list_append mt_append (dv 4) (@pa_cons _ _ _ _ _ (dv 6) pa_nil (by rfl)) (by rfl) (by rfl) (by rfl) (by rfl) (by rfl)) (by rfl)))) pss_nil)) (by intro _; rfl))) (by intro _; rfl)) (@pss_one _ _ _ (@ps_set _ _ (3) _ _ _ _ sc_ways_from.nd rfl (by first | exact Or.inl rfl | exact Or.inr rfl) (dv 4) (by rfl) (by first | exact .inl rfl | exact .inr rfl | assumption)))))) (@pss_one _ _ _ (@ps_ret _ _ _ _ (dv 2)))))),?_⟩
      intro D hD
      have len1:∀ v:V,[v].length ≤ sizeLine:=fun v=>by show 1 ≤ sizeLine; decide
      refine ⟨len1 _, fun p0 hp0 => ?_⟩
      have neDp : D ≠ p0 := fun e => by
        rw [← e, upd_same] at hp0
        cases hp0
      have hp0' : H p0 = none := by
        rw [← hp0, upd_ne (Ne.symm neDp)]
      refine ⟨by rw [upd_ne neDp,upd_same],[(Sum.inr n,.ref p0)],rfl,(by show 1 ≤ 15; decide),len1 _,fun N hN=>?_⟩
      have eM:mergeK [] [((Sum.inr n:Key),V.ref p0)] = [(Sum.inr n,.ref p0)]:=rfl
      rw [eM] at hN ⊢
      have s0:Same H (upd (upd (upd H D (.dK [])) p0 (.lst [.str n])) D (.dK [(Sum.inr n,.ref p0)])):=same_app' (same_app' (same_upd hD) hp0') hD
      have eD0:upd (upd (upd H D (.dK [])) p0 (.lst [.str n])) D (.dK [(Sum.inr n,.ref p0)]) D = some (.dK [(Sum.inr n,.ref p0)]):=upd_same
      have eP0:upd (upd (upd H D (.dK [])) p0 (.lst [.str n])) D (.dK [(Sum.inr n,.ref p0)]) p0 = some (.lst [.str n]):=by rw [upd_ne (Ne.symm neDp),upd_same]
      generalize upd (upd (upd H D (.dK [])) p0 (.lst [.str n])) D (.dK [(Sum.inr n,.ref p0)]) = H0 at hN s0 eD0 eP0
      have t64:∀ x,(tkr x gs).length < 64:=fun x=>Nat.lt_of_le_of_lt (Nat.le_trans (tkr_len hm) l60) (by decide)
      refine ⟨fun m σ H'=>∃ (N:Addr) (nw ks:List Str) (kvs:List (Key × V)) (o4 o5 o6:Option V),σ = [some (.ref L),some (.str n),some (.ref D),some (.ref N),o4,o5,o6]∧(Same H H'∧H' D = some (.dK kvs)∧kvs.map (·.1) = ks.map Sum.inr∧(∀ R,H' R = none→VL H' R kvs)∧H' N = some (.lst (nw.map V.str)))∧(ks.Nodup∧n ∈ ks∧(∀ x ∈ ks,Rch gs n x)∧(∀ x ∈ nw,x ∈ ks)∧∀ x ∈ ks,x ∈ nw ∨ ∀ y ∈ tkr x gs,y ∈ ks)∧m = 2 * (60 - ks.length) + (if nw = [] then 0 else 1),
        ⟨_,N,[n],[n],[(Sum.inr n,.ref p0)],none,none,none,rfl,⟨s0.trans (same_upd hN),(same_upd hN) _ _ eD0,rfl,fun R hR kv hkv=>?_,upd_same⟩,⟨List.nodup_cons.mpr ⟨by simp,List.nodup_nil⟩,List.mem_singleton.mpr rfl,fun x hx=>?_,fun x hx=>hx,fun x hx=>.inl hx⟩,rfl⟩,?_⟩
      · rw [List.mem_singleton] at hkv
        subst hkv
        have e:=(same_upd (o:=.lst [V.str n]) hN) _ _ eP0
        refine ⟨p0, _, rfl, fun z => ?_, e, Nat.le_refl _⟩
        rw [z, hR] at e
        cases e
      · rw [List.mem_singleton] at hx
        subst hx
        exact .here
      clear hN s0 eD0 eP0
      rintro m σ H' ⟨N,nw,ks,kvs,o4,o5,o6,rfl,⟨s1,eD,ky,vl,eN⟩,⟨nd,hk,rc,sub,cl⟩,rfl⟩
      have ksnm:∀ x ∈ ks,x ∈ nm:=fun x hx=>(rc x hx).nm hn hm
      have shN:SeqAt.shaped (.list (nw.map PyData.str)) = true:=sh_strs fun x hx=>sok x (ksnm x (sub x hx))
      refine ⟨Nat.zero_le _,fun e0 he0=>⟨_,_,rp_strs (SqL.of ((same_upd he0) _ _ eN)),rp_strs (l:=[]) (SqL.of upd_same),shN,rfl,?_⟩⟩
      rw [ne_nil]
      have s2:Same H' (upd H' e0 (.lst ([]:List V))):=same_upd he0
      refine ⟨fun h => ?_, fun h => ?_⟩
      · have hne:nw ≠ []:=fun z=>by rw [z] at h; cases h
        rw [if_neg hne]
        refine ⟨Nat.zero_le _, fun R hR => ?_⟩
        have eN1 := s2 _ _ eN
        have neNR : N ≠ R := fun z => by
          rw [z, hR] at eN1
          cases eN1
        have hR' := none_back s2 hR
        have s3:Same H' (upd (upd H' e0 (.lst [])) R (.lst [])):=s2.trans (same_upd hR)
        have w0:WI gs n H (upd (upd H' e0 (.lst [])) R (.lst [])) D R ks [] kvs:=⟨s1.trans s3,s3 _ _ eD,by rw [List.append_nil]; exact ky,(vl R hR').up fun p zs _ e=>s3 _ _ e,upd_same,by rw [List.append_nil]; exact nd,by rw [List.append_nil]; exact rc⟩
        have eN2 := s3 _ _ eN
        have hR0 : H R = none := none_back s1 hR'
        generalize upd (upd H' e0 (.lst [])) R (.lst []) = H2 at w0 eN2
        refine ⟨N,rfl,⟨_,SqL.of eN2⟩,for_list (K:=K) (a:=N) (xs:=nw.map V.str) (fun i σ Hx=>∃ (rs:List Str) (kvs:List (Key × V)) (o5 o6:Option V),σ = [some (.ref L),some (.str n),some (.ref D),some (.ref N),some (.ref R),o5,o6]∧WI gs n H Hx D R ks rs kvs∧Hx N = some (.lst (nw.map V.str))∧∀ x ∈ ks ++ rs,x ∈ rs ∨ x ∈ nw.drop i ∨ ∀ y ∈ tkr x gs,y ∈ ks ++ rs)
          ⟨[],kvs,_,_,rfl,w0,eN2,fun x hx=>?_⟩ (fun i σ Hx _ ⟨_,_,_,_,_,_,e,_⟩=>SqL.of e) ?_ ?_⟩
        · rw [List.append_nil] at hx ⊢
          exact .inr (cl x hx)
        · rintro i v σ Hx hv ⟨rs,kvs,o5,o6,rfl,wi,eN,cl⟩
          rw [List.getElem?_map] at hv
          obtain ⟨last,hlast,rfl⟩:∃ x,nw[i]? = some x∧V.str x = v:=by
            cases hh : nw[i]? with
            | none => rw [hh] at hv; cases hv
            | some x=>rw [hh] at hv; exact ⟨x,rfl,Option.some.inj hv⟩
          have hlk:last ∈ ks:=sub last (List.mem_of_getElem? hlast)
          refine ⟨gs,⟨hB.up wi.sm,t64 last⟩,fun T H3 s3 d3 e3=>?_⟩
          have neTR : T ≠ R := fun z => by
            have := wi.eR
            rw [← z, d3] at this
            cases this
          refine ⟨T,rfl,⟨_,SqL.of e3⟩,for_list (K:=K) (a:=T) (xs:=(tkr last gs).map V.str) (fun j σ Hy=>∃ (rs:List Str) (kvs:List (Key × V)) (o6:Option V),σ = [some (.ref L),some (.str n),some (.ref D),some (.ref N),some (.ref R),some (.str last),o6]∧WI gs n H Hy D R ks rs kvs∧Hy N = some (.lst (nw.map V.str))∧Hy T = some (.lst ((tkr last gs).map V.str))∧(∀ y ∈ (tkr last gs).take j,y ∈ ks ++ rs)∧∀ x ∈ ks ++ rs,x ∈ rs ∨ x ∈ nw.drop i ∨ ∀ y ∈ tkr x gs,y ∈ ks ++ rs)
            ⟨rs,kvs,_,rfl,wi.up s3,s3 _ _ eN,e3,fun y hy=>by simp at hy,cl⟩ (fun j σ Hy _ ⟨_,_,_,_,_,_,e,_⟩=>SqL.of e) ?_ ?_⟩
          · rintro j v σ Hy hv ⟨rs,kvs,o6,rfl,wi,eN,eT,tk,cl⟩
            rw [List.getElem?_map] at hv
            obtain ⟨y,hy,rfl⟩:∃ x,(tkr last gs)[j]? = some x∧V.str x = v:=by
              cases hh : (tkr last gs)[j]? with
              | none => rw [hh] at hv; cases hv
              | some x=>rw [hh] at hv; exact ⟨x,rfl,Option.some.inj hv⟩
            have hyt := List.mem_of_getElem? hy
            have klen:(ks ++ rs).length ≤ 60:=Nat.le_trans (nd_len wi.nd fun x hx=>(wi.rc x hx).nm hn hm) l60
            have kl := wi.len
            refine ⟨D,_,rfl,DGet.k (k:=Sum.inr y) wi.eD,?_⟩
            rw [val_key wi.ky]
            refine ⟨fun h=>?_,fun h=>⟨rs,kvs,_,rfl,wi,eN,eT,fun z hz=>?_,cl⟩⟩
            · have hno : y ∉ ks ++ rs := by simpa using h
              have hlk':last ∈ ks ++ rs:=List.mem_append_left _ hlk
              obtain ⟨v,hv⟩:∃ v,valV kvs (Sum.inr last) = some v:=by
                have := val_key wi.ky last
                rw [decide_eq_true hlk'] at this
                exact Option.isSome_iff_exists.mp this
              obtain ⟨p,zs,rfl,nep,ep,lz⟩:=wi.vl.at hv
              have g1:DGet Hy D (.str last) (some (.ref p)):=by
                have := DGet.k (k := Sum.inr last) wi.eD
                rw [hv] at this
                exact this
              refine ⟨D,_,rfl,g1,len1 _,fun t1 n1=>⟨p,t1,zs,_,rfl,rfl,(same_upd n1) _ _ ep,upd_same,?_,fun t2 n2=>?_⟩⟩
              · show zs.length + 1 ≤ sizeLine
                exact Nat.le_trans (show zs.length + 1 ≤ 100 by omega) (by decide)
              have wa:=wi.add (t1:=t1) (t2:=t2) (p:=p) (zs:=zs) (x:=last) hD hR0 hno hlk' hyt n1 rfl n2 rfl lz
              have sA:Same Hy (upd (upd Hy t1 (.lst [.str y])) t2 (.lst (zs ++ [.str y]))):=(same_upd n1).trans (same_upd n2)
              refine ⟨D,_,rfl,DPut.k (k:=Sum.inr y) (sA _ _ wi.eD) (Nat.lt_of_le_of_lt (show kvs.length ≤ 60 by omega) (by decide)),?_⟩
              have eR1 := sA _ _ wi.eR
              have neRD:R ≠ D:=ne_of_lst eR1 (sA _ _ wi.eD)
              have eR2:upd (upd (upd Hy t1 (.lst [.str y])) t2 (.lst (zs ++ [.str y]))) D (.dK (putK kvs (Sum.inr y) (.ref t2))) R = some (.lst (rs.map V.str)):=by rw [upd_ne neRD]; exact eR1
              refine ⟨.inl ⟨rfl,_,SqL.of eR2⟩,R,_,_,rfl,rfl,eR2,?_,rs ++ [y],kvs ++ [(Sum.inr y,.ref t2)],_,rfl,?_,?_,?_,fun z hz=>?_,fun x hx=>?_⟩
              · rw [List.length_map]
                exact Nat.lt_of_le_of_lt (show rs.length ≤ 60 by rw [List.length_append] at klen; omega) (by decide)
              · rw [List.map_append] at wa
                exact wa
              · rw [upd_ne neNR,upd_ne (ne_of_lst (sA _ _ eN) (sA _ _ wi.eD))]
                exact sA _ _ eN
              · rw [upd_ne neTR,upd_ne (ne_of_lst (sA _ _ eT) (sA _ _ wi.eD))]
                exact sA _ _ eT
              · rw [List.take_add_one, hy] at hz
                rw [← List.append_assoc]
                rcases List.mem_append.mp hz with hz | hz
                · exact List.mem_append_left _ (tk z hz)
                · exact List.mem_append_right _ hz
              · rw [← List.append_assoc] at hx ⊢
                rcases List.mem_append.mp hx with hx | hx
                · rcases cl x hx with c | c | c
                  · exact .inl (List.mem_append_left _ c)
                  · exact .inr (.inl c)
                  · exact .inr (.inr fun z hz=>List.mem_append_left _ (c z hz))
                · exact .inl (List.mem_append_right _ hx)
            · have hyes:y ∈ ks ++ rs:=of_decide_eq_true (by rw [Bool.not_eq_false'] at h; exact h)
              rw [List.take_add_one, hy] at hz
              rcases List.mem_append.mp hz with hz | hz
              · exact tk z hz
              · have : z = y := by simpa using hz
                rw [this]
                exact hyes
          · rintro σ Hy ⟨rs,kvs,o6,rfl,wi,eN,eT,tk,cl⟩
            rw [List.length_map, List.take_length] at tk
            refine ⟨rs,kvs,_,_,rfl,wi,eN,fun x hx=>?_⟩
            rcases cl x hx with c | c | c
            · exact .inl c
            · have hi:i < nw.length:=(List.getElem?_eq_some_iff.mp hlast).1
              rw [List.drop_eq_getElem_cons hi] at c
              rcases List.mem_cons.mp c with c | c
              · have : x = last := by
                  rw [c]
                  exact (List.getElem?_eq_some_iff.mp hlast).2
                subst this
                exact .inr (.inr tk)
              · exact .inr (.inl c)
            · exact .inr (.inr c)
        · rintro σ Hx ⟨rs, kvs, o5, o6, rfl, wi, eN, cl⟩
          rw [List.length_map, List.drop_length] at cl
          have klen:(ks ++ rs).length ≤ 60:=Nat.le_trans (nd_len wi.nd fun x hx=>(wi.rc x hx).nm hn hm) l60
          refine ⟨2 * (60 - (ks ++ rs).length) + (if rs = [] then 0 else 1),?_,R,rs,ks ++ rs,kvs,_,_,_,rfl,⟨wi.sm,wi.eD,wi.ky,fun R' hR'=>?_,wi.eR⟩,⟨wi.nd,List.mem_append_left _ hk,wi.rc,fun x hx=>List.mem_append_right _ hx,fun x hx=>?_⟩,rfl⟩
          · rw [List.length_append] at klen ⊢
            by_cases z : rs = []
            · rw [if_pos z, z]
              show 2 * (60 - (ks.length + 0)) + 0 < _
              omega
            · rw [if_neg z]
              have:0 < rs.length:=List.length_pos_iff.mpr z
              omega
          · intro kv hkv
            obtain ⟨p, zs, a1, a2, a3, a4⟩ := wi.vl kv hkv
            refine ⟨p, zs, a1, fun z => ?_, a3, a4⟩
            rw [z, hR'] at a3
            cases a3
          · rcases cl x hx with c | c | c
            · exact .inl c
            · cases c
            · exact .inr c
      · have hz : nw = [] := by
          cases nw with
          | nil => rfl
          | cons x l => cases h
        subst hz
        refine q D kvs ks _ (s1.trans s2) hD (s2 _ _ eD) ky nd fun x=>⟨fun hx=>rc x hx,fun hx=>rch_sub hk (fun a ha y hy=>?_) hx⟩
        rcases cl a ha with c | c
        · cases c
        · exact c y hy
def sp_above (K:PySem.W.Frag) (ns:List Int):Sp:=fun vs H Q E=>match vs with
  | [.ref L,.str n]=>∃ (gs:List Gm) (nm:List Str),(Bk K H L gs∧(∀ g ∈ gs,g.a ∈ nm∧g.b ∈ nm)∧nm.length ≤ 60∧∀ x ∈ nm,PyData.strOk x = true)∧(n ∈ plr gs→∀ D (fs:List Str) H',Same H H'→H D = none→H' D = some (.lst (fs.map V.str))→Inc fs→(∀ x,x ∈ fs ↔ Rch gs n x)→Q (.ref D) H')∧(n ∉ plr gs→∀ H',Same H H'→ExN K "NoPlayer" E H')
  | _ => False
theorem sc_above:FnScope ["games","name"] ["games","name"] (defScope s_above):=⟨rfl,rfl,rfl,by decide +kernel,rfl,by decide +kernel,by decide +kernel⟩
theorem ok_above (d:Dfn K mg "above" s_above ["games","name"]) (er:Errs K mg c_LadderError c_NoBook c_NoFit c_NoGame c_NoNumber c_NoPlayer c_NoRow c_NoStretch c_NoTable c_NoTree c_NoWorth) (n_sorted:mg "sorted" = none)  (c_ways_from:Cal P w K mg base "ways_from" ["games","name"] 4 (sp_ways_from K ns)) (c_check_player:Cal P w K mg base "check_player" ["games","name"] 2 (sp_check_player K ns)):Cal P w K mg base "above" ["games","name"] 5 (sp_above K ns):=by
  refine d.calX (k:=4) sc_above (fun vs H Q E h=>?_) (fun f cdv A outer s H vs Q E hr h=>?_)
  · match vs, h with
    | [.ref L, .str n], _ => rfl
  · match vs, h with
    | [.ref L, .str n], hq0 =>
      obtain ⟨gs, nm, ⟨hB, hm, l60, sok⟩, k1, k2⟩ := hq0
      refine ⟨_,(@pss_cons _ _ _ _ _ (@ps_expr _ _ _ _ (@e_callX _ _ _ _ _ _ _ _ _ _ _ _ _ _ _ _ _ _ _ _ _ _ _ _ _ c_check_player hr (by decide) (by rfl) (@pa_cons _ _ _ _ _ (dv 0) (@pa_cons _ _ _ _ _ (dv 1) pa_nil (by rfl)) (by rfl)) (by decide) (by rfl) (by rfl)) (by rfl)) (@pss_one _ _ _ (@ps_ret _ _ _ _ (@pe_callB _ _ _ _ _ _ _ _ _ c_sortD (by rfl) n_sorted (by decide +kernel) (@pa_cons _ _ _ _ _ (@e_call _ _ _ _ _ _ _ _ _ _ _ c_ways_from hr (by decide) (by rfl) (@pa_cons _ _ _ _ _ (dv 0) (@pa_cons _ _ _ _ _ (dv 1) pa_nil (by rfl)) (by rfl)) (by decide) (by rfl) (by rfl)) pa_nil (by rfl)) (by decide) (by decide) (by rfl) (by rfl))))),?_⟩
      have p64:(plr gs).length < 64:=Nat.lt_of_le_of_lt (Nat.le_trans (plr_len hm) l60) (by decide)
      refine ⟨gs,⟨hB,p64⟩,fun h H1 s1=>⟨gs,nm,⟨hB.up s1,hm,l60,plr_sub hm h,sok⟩,fun D kvs ks H2 s2 d2 e2 ky nd mem=>⟨kvs,ks,e2,ky,?_,nd,fun F hF=>?_⟩⟩,fun h H1 s1=>k2 h H1 s1⟩
      · exact Nat.lt_of_le_of_lt (Nat.le_trans (nd_len nd fun x hx=>((mem x).mp hx).nm (plr_sub hm h) hm) l60) (by decide)
      · have s := s1.trans s2
        exact k1 h F (srt ks) _ (s.trans (same_upd hF)) (none_back s hF) upd_same (inc_srt _) fun x=>mem_srt.trans (mem x)
noncomputable def abv (gs:List Gm) (n:Str):List Str:=srt ((n :: plr gs).filter fun x=>@decide (Rch gs n x) (Classical.propDecidable _))
theorem rch_plr {gs:List Gm} {n x:Str} (h:Rch gs n x):x = n ∨ x ∈ plr gs:=by
  cases h with
  | here => exact .inl rfl
  | step h t =>
    obtain ⟨g, hg, t⟩ := mem_tkr.mp t
    refine .inr (mem_plr.mpr ⟨g, hg, ?_⟩)
    rcases t with ⟨_, _, t⟩ | ⟨_, _, _, t⟩
    · exact .inr t
    · exact .inl t
theorem mem_abv {gs:List Gm} {n x:Str}:x ∈ abv gs n ↔ Rch gs n x:=by
  unfold abv
  rw [mem_srt, List.mem_filter]
  constructor
  · intro h
    exact @of_decide_eq_true _ (Classical.propDecidable _) h.2
  · intro h
    refine ⟨?_,@decide_eq_true _ (Classical.propDecidable _) h⟩
    rcases rch_plr h with e | e
    · rw [e]
      exact List.mem_cons_self ..
    · exact List.mem_cons_of_mem _ e
theorem abv_inc (gs:List Gm) (n:Str):Inc (abv gs n):=inc_srt _
theorem abv_eq {gs:List Gm} {n:Str} {fs:List Str} (inc:Inc fs) (mem:∀ x,x ∈ fs ↔ Rch gs n x):fs = abv gs n:=inc_ext inc (abv_inc gs n) fun x=>(mem x).trans mem_abv.symm
noncomputable def jstep (gs:List Gm) (ps:List (List Str)) (n:Str):List (List Str):=if ps.any (fun p=>decide (n ∈ p)) then ps else ps ++ [abv gs n]
noncomputable def jnI (gs:List Gm) (i:Nat):List (List Str):=((plr gs).take i).foldl (jstep gs) []
theorem jnI_succ {gs:List Gm} {i:Nat} {n:Str} (h:(plr gs)[i]? = some n):jnI gs (i + 1) = jstep gs (jnI gs i) n:=by
  unfold jnI
  rw [List.take_add_one, h, List.foldl_append]
  rfl
theorem jstep_len (gs:List Gm) (ps:List (List Str)) (n:Str):(jstep gs ps n).length ≤ ps.length + 1:=by
  unfold jstep
  split
  · omega
  · rw [List.length_append]
    exact Nat.le_refl _
theorem jnI_len (gs : List Gm) : ∀ i, (jnI gs i).length ≤ i
  | 0 => Nat.le_refl _
  | i + 1 => by
    cases h : (plr gs)[i]? with
    | none =>
      have e : jnI gs (i + 1) = jnI gs i := by
        unfold jnI
        rw [List.take_add_one, h]
        exact congrArg (fun l=>List.foldl (jstep gs) [] l) (List.append_nil _)
      rw [e]
      exact Nat.le_succ_of_le (jnI_len gs i)
    | some n =>
      rw [jnI_succ h]
      exact Nat.le_trans (jstep_len gs _ n) (Nat.succ_le_succ (jnI_len gs i))
def Prt (H0 H:Hp) (D:Addr) (v:V) (p:List Str):Prop:=∃ d,v = .ref d∧H0 d = none∧d ≠ D∧H d = some (.lst (p.map V.str))
theorem all2_bls {β:Type} {f:β→Bool}:∀ {ms:List β} {ys:List V},All2 (fun m y=>y = V.bl (f m)) ms ys→ys = (ms.map f).map V.bl
  | _, _, .nil => rfl
  | _, _, .cons h t => by rw [h, all2_bls t]; rfl
def sp_joined (K:PySem.W.Frag) (ns:List Int):Sp:=fun vs H Q _=>match vs with
  | [.ref L]=>∃ (gs:List Gm) (nm:List Str),(Bk K H L gs∧(∀ g ∈ gs,g.a ∈ nm∧g.b ∈ nm)∧nm.length ≤ 60∧∀ x ∈ nm,PyData.strOk x = true)∧∀ D vs H',Same H H'→H D = none→H' D = some (.lst vs)→All2 (Prt H H' D) vs (jnI gs (plr gs).length)→Q (.ref D) H'
  | _ => False
theorem sc_joined:FnScope ["games","parts","name"] ["games"] (defScope s_joined):=⟨rfl,rfl,rfl,by decide +kernel,rfl,by decide +kernel,by decide +kernel⟩
theorem ok_joined (d:Dfn K mg "joined" s_joined ["games"]) (er:Errs K mg c_LadderError c_NoBook c_NoFit c_NoGame c_NoNumber c_NoPlayer c_NoRow c_NoStretch c_NoTable c_NoTree c_NoWorth) (n_any:mg "any" = none)  (c_players:Cal P w K mg base "players" ["games"] 1 (sp_players K ns)) (c_above:Cal P w K mg base "above" ["games","name"] 5 (sp_above K ns)):Cal P w K mg base "joined" ["games"] 6 (sp_joined K ns):=by
  refine d.cal (k:=5) sc_joined (fun vs H Q E h=>?_) (fun f cdv A outer s H vs Q E hr h=>?_)
  · match vs, h with
    | [.ref L], _ => rfl
  · match vs, h with
    | [.ref L], hq0 =>
      obtain ⟨gs, nm, ⟨hB, hm, l60, sok⟩, q⟩ := hq0
      refine ⟨_,(@pss_cons _ _ _ _ _ (@ps_set _ _ (1) _ _ _ _ sc_joined.nd rfl (by first | exact Or.inl rfl | exact Or.inr rfl) (@pe_lst _ _ _ _ pa_nil) (by rfl) (by first | exact .inl rfl | exact .inr rfl | assumption)) (@pss_cons _ _ _ _ _ (@ps_for _ _ _ _ _ _ _ _ PassesOwn.never rfl (@pi_list _ _ _ _ (@e_call _ _ _ _ _ _ _ _ _ _ _ c_players hr (by decide) (by rfl) (@pa_cons _ _ _ _ _ (dv 0) pa_nil (by rfl)) (by decide) (by rfl) (by rfl))) (@pg_name _ _ (2) _ sc_joined.nd rfl (by first | exact Or.inl rfl | exact Or.inr rfl) (by first | exact .inl rfl | exact .inr rfl | assumption)) (@pss_one _ _ _ (@s_if _ _ _ _ _ _ _ _ (@pt_not _ _ _ _ (@t_val _ _ _ (@pe_callB _ _ _ _ _ _ _ _ _ (@c_any _ rfl) (by rfl) n_any (by decide +kernel) (@pa_cons _ _ _ _ _ (@e_compN _ _ _ _ _ _ _ _ _ _ ["part"] ["name"] [2] rfl (@pi_list _ _ _ _ (dv 1)) (fun C s H fp=>(@pg_name _ _ (0) _ (show List.Nodup [("part":Str),("name":Str)] by decide +kernel) rfl (by first | exact Or.inl rfl | exact Or.inr rfl) (by first | exact .inl rfl | exact .inr rfl | assumption))) (fun C s H fp=>(@pe_cmpR _ _ _ _ _ _ _ _ (show OpR _ _ (dInS K) from o_in) (dv 1) (dv 0) (by with_unfolding_all rfl))) rfl rfl (by decide +kernel) (by decide +kernel) (by rfl) ⟨rfl,True.intro⟩ ⟨⟨rfl,rfl,rfl,rfl⟩,True.intro⟩ (by intro _; rfl)) pa_nil (by rfl)) (by decide) (by decide) (by rfl) (by rfl)) (by intro _; rfl))) (@pss_one _ _ _ (@ps_expr _ _ _ _ (@pe_bm _ _ _ _ _ _ _ _ _ _ _ _ PySem.F.plainAttrs_list PySem.F.slot_list_append PySem.F.type_list_append mt_append (dv 1) (@pa_cons _ _ _ _ _ (@e_call _ _ _ _ _ _ _ _ _ _ _ c_above hr (by decide) (by rfl) (@pa_cons _ _ _ _ _ (dv 0) (@pa_cons _ _ _ _ _ (dv 2) pa_nil (by rfl)) (by rfl)) (by decide) (by rfl) (by rfl)) pa_nil (by rfl)) (by rfl) (by rfl) (by rfl) (by rfl) (by rfl)) (by rfl))) pss_nil)) (by intro _; rfl)) (@pss_one _ _ _ (@ps_ret _ _ _ _ (dv 1))))),?_⟩
      have pl60:(plr gs).length ≤ 60:=Nat.le_trans (plr_len hm) l60
      refine ⟨by decide, fun D hD => ?_⟩
      have s0 : Same H (upd H D (.lst [])) := same_upd hD
      refine ⟨gs,⟨hB.up s0,by omega⟩,fun P H1 s1 f1 e1=>?_⟩
      have eD1:=s1 _ _ (upd_same:upd H D (.lst []) D = some (.lst []))
      have neDP : D ≠ P := fun z => by
        rw [← z, upd_same] at f1
        cases f1
      refine ⟨P,rfl,⟨_,SqL.of e1⟩,for_list (K:=K) (a:=P) (xs:=(plr gs).map V.str) (fun i σ Hx=>∃ (vs:List V) (o2:Option V),σ = [some (.ref L),some (.ref D),o2]∧Same H Hx∧Hx P = some (.lst ((plr gs).map V.str))∧Hx D = some (.lst vs)∧All2 (Prt H Hx D) vs (jnI gs i))
        ⟨[],_,rfl,s0.trans s1,e1,eD1,.nil⟩ (fun i σ Hx _ ⟨_,_,_,_,e,_⟩=>SqL.of e) ?_ ?_⟩
      · rintro i v σ Hx hv ⟨vs, o2, rfl, s2, eP, eD, al⟩
        rw [List.getElem?_map] at hv
        obtain ⟨n,hn,rfl⟩:∃ x,(plr gs)[i]? = some x∧V.str x = v:=by
          cases hh : (plr gs)[i]? with
          | none => rw [hh] at hv; cases hv
          | some x=>rw [hh] at hv; exact ⟨x,rfl,Option.some.inj hv⟩
        have hi:i < (plr gs).length:=(List.getElem?_eq_some_iff.mp hn).1
        have hp : n ∈ plr gs := List.mem_of_getElem? hn
        have lv : vs.length ≤ 60 := by
          rw [al.len]
          exact Nat.le_trans (jnI_len gs i) (by omega)
        refine ⟨D,rfl,⟨_,SqL.of eD⟩,comp_abs (fun _ v p=>Prt H Hx D v p) (fun _ _ _ _ _ h=>h) (fun _ p y=>y = V.bl (decide (n ∈ p))) (fun _ _ _ _ _ h=>h) (by omega) (SqL.of eD) al ?_ ?_⟩
        · intro v p H2 hM _ s3 P hP
          obtain ⟨d, rfl, _, _, ed⟩ := hM
          refine ⟨rfl,_,.inl (SqL.of (s3 _ _ ed)),rfl,flat_strs _,?_⟩
          rw [in_strs]
          exact hP _ _ (Same.refl _) rfl
        intro D2 H2 ys s3 _ e2 a2
        have ey := all2_bls a2
        have hany:((jnI gs i).map fun p=>decide (n ∈ p)).any id = (jnI gs i).any fun p=>decide (n ∈ p):=by rw [List.any_map]; rfl
        refine ⟨(jnI gs i).map fun p=>decide (n ∈ p),SqL.of (by rw [e2,ey]),?_⟩
        rw [hany]
        refine ⟨fun h => ?_, fun h => ?_⟩
        · have h:((jnI gs i).any fun p=>decide (n ∈ p)) = false:=by rw [Bool.not_eq_true'] at h; exact h
          have s23 := s2.trans s3
          refine ⟨.inl ⟨rfl,_,SqL.of (s3 _ _ eD)⟩,gs,nm,⟨hB.up s23,hm,l60,sok⟩,fun _ Fa fs H3 s4 f3 e3 inc mem=>?_,fun hno=>absurd hp hno⟩
          have ne : Fa ≠ D := fun z => by
            rw [z, s3 _ _ eD] at f3
            cases f3
          have neP : P ≠ D := Ne.symm neDP
          have eD3 := s4 _ _ (s3 _ _ eD)
          refine ⟨D,vs,_,rfl,rfl,eD3,Nat.lt_of_le_of_lt lv (by decide),vs ++ [.ref Fa],_,rfl,same_app' (s23.trans s4) hD,by rw [upd_ne neP]; exact s4 _ _ (s3 _ _ eP),upd_same,?_⟩
          rw [jnI_succ hn]
          unfold jstep
          rw [h]
          refine All2.snoc ⟨Fa,rfl,none_back s23 f3,ne,?_⟩ (al.imp fun v p r=>?_)
          · obtain ⟨d, r1, r2, r3, r4⟩ := r
            exact ⟨d,r1,r2,r3,by rw [upd_ne r3]; exact s4 _ _ (s3 _ _ r4)⟩
          · rw [upd_ne ne, e3, abv_eq inc mem]
        · have h:((jnI gs i).any fun p=>decide (n ∈ p)) = true:=by rw [Bool.not_eq_false'] at h; exact h
          refine ⟨vs,_,rfl,s2.trans s3,s3 _ _ eP,s3 _ _ eD,?_⟩
          rw [jnI_succ hn]
          unfold jstep
          rw [h]
          refine al.imp fun v p r => ?_
          obtain ⟨d, r1, r2, r3, r4⟩ := r
          exact ⟨d, r1, r2, r3, s3 _ _ r4⟩
      · rintro σ Hx ⟨vs, o2, rfl, s2, eP, eD, al⟩
        rw [List.length_map] at al
        exact q D vs Hx s2 hD eD al
def bad (gs:List Gm) (n:Str):Prop:=∃ x ∈ (tld n gs).map (·.b),¬ Rch gs n x
inductive Vd (gs:List Gm) (H H':Hp) (T:Addr):Prop where
  | none (i:Nat) (n:Str) (F:Addr):(plr gs)[i]? = some n→bad gs n→(∀ j m,j < i→(plr gs)[j]? = some m→¬ bad gs m)→H F = none→H' F = some (.lst ((abv gs n).map V.str))→H' T = some (.tup [.str (Str.ofString "none"),.ref F])→Vd gs H H' T
  | one (p:List Str) (F:Addr):(∀ m ∈ plr gs,¬ bad gs m)→jnI gs (plr gs).length = [p]→H F = none→H' F = some (.lst (p.map V.str))→H' T = some (.tup [.str (Str.ofString "one"),.ref F])→Vd gs H H' T
  | loose (D:Addr) (vs:List V):(∀ m ∈ plr gs,¬ bad gs m)→(jnI gs (plr gs).length).length ≠ 1→H D = none→H' D = some (.lst vs)→All2 (Prt H H' D) vs (jnI gs (plr gs).length)→H' T = some (.tup [.str (Str.ofString "loose"),.ref D])→Vd gs H H' T
def sp_verdict (K:PySem.W.Frag) (ns:List Int):Sp:=fun vs H Q _=>match vs with
  | [.ref L]=>∃ (gs:List Gm) (nm:List Str),(Bk K H L gs∧(∀ g ∈ gs,g.a ∈ nm∧g.b ∈ nm)∧nm.length ≤ 60∧∀ x ∈ nm,PyData.strOk x = true)∧∀ T H',Same H H'→Vd gs H H' T→Q (.ref T) H'
  | _ => False
theorem sc_verdict:FnScope ["games","name","those","parts"] ["games"] (defScope s_verdict):=⟨rfl,rfl,rfl,by decide +kernel,rfl,by decide +kernel,by decide +kernel⟩
theorem ok_verdict (d:Dfn K mg "verdict" s_verdict ["games"]) (er:Errs K mg c_LadderError c_NoBook c_NoFit c_NoGame c_NoNumber c_NoPlayer c_NoRow c_NoStretch c_NoTable c_NoTree c_NoWorth) (n_len:mg "len" = none) (n_all:mg "all" = none)  (c_joined:Cal P w K mg base "joined" ["games"] 6 (sp_joined K ns)) (c_players:Cal P w K mg base "players" ["games"] 1 (sp_players K ns)) (c_told_by:Cal P w K mg base "told_by" ["games","name"] 2 (sp_told_by K ns)) (c_above:Cal P w K mg base "above" ["games","name"] 5 (sp_above K ns)):Cal P w K mg base "verdict" ["games"] 7 (sp_verdict K ns):=by
  refine d.cal (k:=6) sc_verdict (fun vs H Q E h=>?_) (fun f cdv A outer s H vs Q E hr h=>?_)
  · match vs, h with
    | [.ref L], _ => rfl
  · match vs, h with
    | [.ref L], hq0 =>
      obtain ⟨gs, nm, ⟨hB, hm, l60, sok⟩, q⟩ := hq0
      refine ⟨_,(@pss_cons _ _ _ _ _ (@ps_for _ _ _ _ _ _ _ _ PassesOwn.never rfl (@pi_list _ _ _ _ (@e_call _ _ _ _ _ _ _ _ _ _ _ c_players hr (by decide) (by rfl) (@pa_cons _ _ _ _ _ (dv 0) pa_nil (by rfl)) (by decide) (by rfl) (by rfl))) (@pg_name _ _ (1) _ sc_verdict.nd rfl (by first | exact Or.inl rfl | exact Or.inr rfl) (by first | exact .inl rfl | exact .inr rfl | assumption)) (@pss_cons _ _ _ _ _ (@ps_set _ _ (2) _ _ _ _ sc_verdict.nd rfl (by first | exact Or.inl rfl | exact Or.inr rfl) (@e_call _ _ _ _ _ _ _ _ _ _ _ c_above hr (by decide) (by rfl) (@pa_cons _ _ _ _ _ (dv 0) (@pa_cons _ _ _ _ _ (dv 1) pa_nil (by rfl)) (by rfl)) (by decide) (by rfl) (by rfl)) (by rfl) (by first | exact .inl rfl | exact .inr rfl | assumption)) (@pss_one _ _ _ (@s_if _ _ _ _ _ _ _ _ (@pt_not _ _ _ _ (@t_val _ _ _ (@pe_callB _ _ _ _ _ _ _ _ _ (@c_all _ rfl) (by rfl) n_all (by decide +kernel) (@pa_cons _ _ _ _ _ (@e_compN _ _ _ _ _ _ _ _ _ _ ["played"] ["those"] [2] rfl (@pi_list _ _ _ _ (@e_call _ _ _ _ _ _ _ _ _ _ _ c_told_by hr (by decide) (by rfl) (@pa_cons _ _ _ _ _ (dv 0) (@pa_cons _ _ _ _ _ (dv 1) pa_nil (by rfl)) (by rfl)) (by decide) (by rfl) (by rfl))) (fun C s H fp=>(@pg_name _ _ (0) _ (show List.Nodup [("played":Str),("those":Str)] by decide +kernel) rfl (by first | exact Or.inl rfl | exact Or.inr rfl) (by first | exact .inl rfl | exact .inr rfl | assumption))) (fun C s H fp=>(@pe_cmpR _ _ _ _ _ _ _ _ (show OpR _ _ (dInS K) from o_in) (@pe_ix _ _ _ _ _ _ _ i_tup (dv 0) pe_int (fun _ _=>rfl)) (dv 1) (by with_unfolding_all rfl))) rfl rfl (by decide +kernel) (by decide +kernel) (by rfl) ⟨rfl,True.intro⟩ ⟨⟨rfl,rfl,rfl,rfl⟩,True.intro⟩ (by intro _; rfl)) pa_nil (by rfl)) (by decide) (by decide) (by rfl) (by rfl)) (by intro _; rfl))) (@pss_one _ _ _ (@ps_ret _ _ _ _ (@e_tup _ _ _ _ _ (@pa_cons _ _ _ _ _ pe_str (@pa_cons _ _ _ _ _ (dv 2) pa_nil (by rfl)) (by rfl))))) pss_nil))) (by intro _; rfl)) (@pss_cons _ _ _ _ _ (@ps_set _ _ (3) _ _ _ _ sc_verdict.nd rfl (by first | exact Or.inl rfl | exact Or.inr rfl) (@e_call _ _ _ _ _ _ _ _ _ _ _ c_joined hr (by decide) (by rfl) (@pa_cons _ _ _ _ _ (dv 0) pa_nil (by rfl)) (by decide) (by rfl) (by rfl)) (by rfl) (by first | exact .inl rfl | exact .inr rfl | assumption)) (@pss_cons _ _ _ _ _ (@s_if _ _ _ _ _ _ _ _ (@t_cmp _ _ _ _ _ _ _ _ o_eq (@pe_callB _ _ _ _ _ _ _ _ _ c_len (by rfl) n_len (by decide +kernel) (@pa_cons _ _ _ _ _ (dv 3) pa_nil (by rfl)) (by decide) (by decide) (by rfl) (by rfl)) pe_int (@nomark _ _ (by decide) (by decide))) (@pss_one _ _ _ (@ps_ret _ _ _ _ (@e_tup _ _ _ _ _ (@pa_cons _ _ _ _ _ pe_str (@pa_cons _ _ _ _ _ (@pe_ix _ _ _ _ _ _ _ i_lst (dv 3) pe_int (fun _ _=>rfl)) pa_nil (by rfl)) (by rfl))))) pss_nil) (@pss_one _ _ _ (@ps_ret _ _ _ _ (@e_tup _ _ _ _ _ (@pa_cons _ _ _ _ _ pe_str (@pa_cons _ _ _ _ _ (dv 3) pa_nil (by rfl)) (by rfl)))))))),?_⟩
      have pl60:(plr gs).length ≤ 60:=Nat.le_trans (plr_len hm) l60
      refine ⟨gs, ⟨hB, by omega⟩, fun P H1 s1 f1 e1 => ?_⟩
      refine ⟨P,rfl,⟨_,SqL.of e1⟩,for_list (K:=K) (a:=P) (xs:=(plr gs).map V.str) (fun i σ Hx=>∃ (o1 o2:Option V),σ = [some (.ref L),o1,o2,none]∧Same H Hx∧Hx P = some (.lst ((plr gs).map V.str))∧∀ j m,j < i→(plr gs)[j]? = some m→¬ bad gs m)
        ⟨_,_,rfl,s1,e1,fun j m hj=>absurd hj (Nat.not_lt_zero _)⟩ (fun i σ Hx _ ⟨_,_,_,_,e,_⟩=>SqL.of e) ?_ ?_⟩
      · rintro i v σ Hx hv ⟨o1, o2, rfl, s2, eP, good⟩
        rw [List.getElem?_map] at hv
        obtain ⟨n,hn,rfl⟩:∃ x,(plr gs)[i]? = some x∧V.str x = v:=by
          cases hh : (plr gs)[i]? with
          | none => rw [hh] at hv; cases hv
          | some x=>rw [hh] at hv; exact ⟨x,rfl,Option.some.inj hv⟩
        have hp : n ∈ plr gs := List.mem_of_getElem? hn
        refine ⟨gs,nm,⟨hB.up s2,hm,l60,sok⟩,fun _ Fa fs H3 s3 f3 e3 inc mem=>?_,fun hno=>absurd hp hno⟩
        have s23 := s2.trans s3
        refine ⟨gs,hB.up s23,fun D1 H4 s4 d4 ⟨vs,hx4,hm4,hl4⟩=>?_⟩
        have e4 := s4 _ _ e3
        refine ⟨D1,rfl,⟨_,hx4⟩,comp_abs GmAt gm_up (fun _ g y=>y = V.bl (decide (g.b ∈ fs))) (fun _ _ _ _ _ h=>h) (by rw [hm4.len]; omega) hx4 hm4 ?_ ?_⟩
        · intro v g H5 hM _ s5 P hP
          obtain ⟨p, rfl, e⟩ := hM
          refine ⟨rfl,_,e,_,.inl (SqL.of (s5 _ _ e4)),rfl,flat_strs _,?_⟩
          rw [in_strs]
          exact hP _ _ (Same.refl _) rfl
        intro D2 H5 ys s5 _ e5 a5
        have ey := all2_bls a5
        have hall:(((tld n gs).map fun g=>decide (g.b ∈ fs)).all id) = true ↔ ¬ bad gs n:=by
          rw [List.all_map, List.all_eq_true]
          constructor
          · rintro h ⟨x, hx, hr⟩
            obtain ⟨g, hg, rfl⟩ := List.mem_map.mp hx
            exact hr ((mem _).mp (of_decide_eq_true (h g hg)))
          · intro h g hg
            refine decide_eq_true (Classical.byContradiction fun hno=>h ⟨g.b,List.mem_map.mpr ⟨g,hg,rfl⟩,fun hr=>hno ((mem _).mpr hr)⟩)
        refine ⟨(tld n gs).map fun g=>decide (g.b ∈ fs),SqL.of (by rw [e5,ey]),⟨fun h=>?_,fun h=>?_⟩⟩
        · rw [Bool.not_eq_true'] at h
          have hbad:bad gs n:=Classical.byContradiction fun hno=>by
            rw [hall.mpr hno] at h
            cases h
          intro T H6 s6 e6
          have s36 := s4.trans (s5.trans s6)
          refine q T H6 (s23.trans s36) (.none i n Fa hn hbad good (none_back s2 f3) ?_ e6)
          rw [s36 _ _ e3, abv_eq inc mem]
        · rw [Bool.not_eq_false'] at h
          have hok := hall.mp h
          refine ⟨_,_,rfl,s23.trans (s4.trans s5),s5 _ _ (s4 _ _ (s3 _ _ eP)),fun j m hj hm=>?_⟩
          by_cases z : j = i
          · subst z
            rw [hn] at hm
            cases hm
            exact hok
          · exact good j m (by omega) hm
      · rintro σ Hx ⟨o1, o2, rfl, s2, eP, good⟩
        rw [List.length_map] at good
        have good:∀ m ∈ plr gs,¬ bad gs m:=fun m h=>by
          obtain ⟨j, hj, rfl⟩ := List.getElem_of_mem h
          exact good j _ hj (List.getElem?_eq_getElem hj)
        refine ⟨gs,nm,⟨hB.up s2,hm,l60,sok⟩,fun D vs H3 s3 d3 e3 al=>?_⟩
        have al':All2 (Prt H H3 D) vs (jnI gs (plr gs).length):=al.imp fun v p r=>by
          obtain ⟨d, r1, r2, r3, r4⟩ := r
          exact ⟨d, r1, none_back s2 r2, r3, r4⟩
        have ll := al.len
        refine ⟨_,.inl (SqL.of e3),⟨fun h=>?_,fun h=>?_⟩⟩
        · have h : vs.length = 1 := by
            have := of_decide_eq_true h
            omega
          match vs, h, al' with
          | [v], _, al1 =>
            generalize hj:jnI gs (plr gs).length = ps at al1
            cases al1 with
            | cons r t =>
              cases t
              obtain ⟨d, rfl, r2, r3, r4⟩ := r
              refine ⟨_,_,SqL.of e3,rfl,fun T H4 s4 e4=>q T H4 ((s2.trans s3).trans s4) (.one _ d good hj r2 (s4 _ _ r4) e4)⟩
        · have h : vs.length ≠ 1 := by
            have := of_decide_eq_false h
            omega
          intro T H4 s4 e4
          refine q T H4 ((s2.trans s3).trans s4) (.loose D vs good (by omega) (none_back s2 d3) (s4 _ _ e3) (al'.imp fun v p r=>?_) e4)
          obtain ⟨d, r1, r2, r3, r4⟩ := r
          exact ⟨d, r1, r2, r3, s4 _ _ r4⟩
mutual
inductive Rq (H : Hp) : V → PyData → Prop where
  | str (x : Str) : Rq H (.str x) (.str x)
  | tup {p:Addr} {xs:List V} {ds:List PyData}:H p = some (.tup xs)→RqL H xs ds→Rq H (.ref p) (.tuple ds)
  | lst {p:Addr} {xs:List V} {ds:List PyData}:H p = some (.lst xs)→RqL H xs ds→Rq H (.ref p) (.list ds)
inductive RqL (H : Hp) : List V → List PyData → Prop where
  | nil : RqL H [] []
  | cons {v:V} {d:PyData} {vs:List V} {ds:List PyData}:Rq H v d→RqL H vs ds→RqL H (v :: vs) (d :: ds)
end
mutual
theorem Rq.up {H H':Hp} (s:Same H H'):∀ {v:V} {d:PyData},Rq H v d→Rq H' v d
  | _, _, .str x => .str x
  | _, _, .tup h r => .tup (s _ _ h) (RqL.up s r)
  | _, _, .lst h r => .lst (s _ _ h) (RqL.up s r)
theorem RqL.up {H H':Hp} (s:Same H H'):∀ {v:List V} {d:List PyData},RqL H v d→RqL H' v d
  | _, _, .nil => .nil
  | _, _, .cons h r => .cons (Rq.up s h) (RqL.up s r)
end
mutual
theorem Rq.rp {K:PySem.W.Frag} {H:Hp}:∀ {v:V} {d:PyData},Rq H v d→Rp K H v d
  | _, _, .str x => .str x
  | _, _, .tup h r => .tup (SqT.of h) (RqL.rp r)
  | _, _, .lst h r => .lst (SqL.of h) (RqL.rp r)
theorem RqL.rp {K:PySem.W.Frag} {H:Hp}:∀ {v:List V} {d:List PyData},RqL H v d→RpL K H v d
  | _, _, .nil => .nil
  | _, _, .cons h r => .cons (Rq.rp h) (RqL.rp r)
end
theorem RqL.get {H:Hp}:∀ {vs:List V} {ds:List PyData} {i:Nat} {v:V},RqL H vs ds→vs[i]? = some v→∃ d,ds[i]? = some d∧Rq H v d
  | _,_,0,_,.cons h _,e=>by cases e; exact ⟨_,rfl,h⟩
  | _, _, i + 1, _, .cons _ r, e => by
    obtain ⟨d,h1,h2⟩:=RqL.get (i:=i) r (by simpa using e)
    exact ⟨d, by simpa using h1, h2⟩
theorem RqL.len {H:Hp}:∀ {vs:List V} {ds:List PyData},RqL H vs ds→vs.length = ds.length
  | _, _, .nil => rfl
  | _, _, .cons _ r => congrArg (· + 1) (RqL.len r)
theorem RqL.snoc {H:Hp} {v:V} {d:PyData} (h:Rq H v d):∀ {vs:List V} {ds:List PyData},RqL H vs ds→RqL H (vs ++ [v]) (ds ++ [d])
  | _, _, .nil => .cons h .nil
  | _, _, .cons x r => .cons x (RqL.snoc h r)
def nu (H0 H:Hp):Hp:=fun b=>if (H0 b).isNone = true then H b else none
theorem nu_new {H0 H:Hp} {b:Addr} (h:H0 b = none):nu H0 H b = H b:=by
  unfold nu
  rw [h]
  rfl
theorem nu_get {H0 H:Hp} {b:Addr} {o:HO} (h:nu H0 H b = some o):H0 b = none∧H b = some o:=by
  unfold nu at h
  split at h
  · rename_i z
    exact ⟨Option.isNone_iff_eq_none.mp z, h⟩
  · cases h
theorem nu_up {H0 H H':Hp} (s:Same H H'):Same (nu H0 H) (nu H0 H'):=fun b o e=>by
  obtain ⟨e1, e2⟩ := nu_get e
  rw [nu_new e1]
  exact s _ _ e2
theorem nu_less {H0 H0' H:Hp} (h:∀ b,H0' b = none→H0 b = none):Same (nu H0' H) (nu H0 H):=fun b o e=>by
  obtain ⟨e1, e2⟩ := nu_get e
  rw [nu_new (h b e1)]
  exact e2
theorem nu_upd {H0 H:Hp} {D:Addr} {u o:HO}:Same (nu (upd H0 D u) H) (nu (upd H0 D u) (upd H D o)):=fun b p e=>by
  obtain ⟨e1, e2⟩ := nu_get e
  rw [nu_new e1,upd_ne fun z=>by rw [z,upd_same] at e1; cases e1]
  exact e2
theorem nu_old {H0:Hp} {D:Addr} {u:HO}:∀ b,upd H0 D u b = none→H0 b = none:=fun b e=>by
  by_cases z : b = D
  · rw [z, upd_same] at e
    cases e
  · rwa [upd_ne z] at e
section
variable {X : Cx}
def dTupN (K:PySem.W.Frag):List V→Hp→VK→Prop:=fun xs H Q=>match xs with
  | [.ref p]=>∃ ys,SqL K H p ys∧∀ l H',Same H H'→H l = none→H' l = some (.tup ys)→Q (.ref l) H'
  | _ => False
theorem c_tupN : CallR X (.type "tuple") (dTupN X.K) := by
  intro pins s σ H xs us Q I r h
  match xs, h with
  | [.ref p],⟨ys,h1,q⟩=>exact call_tuple_of pins s σ H _ us Q I r ⟨p,ys,rfl,.inl ⟨h1,fun l hl=>q l _ (same_upd hl) hl upd_same⟩⟩
end
theorem comp_cp {K:PySem.W.Frag} {a:Addr} {xs:List V} {ds:List PyData} {g:TG} {te:TE} {k:Nat} {js:List Nat} {σ:L2.St} {H1:Hp} {Q:VK} (hz:xs.length ≤ 1000) (hx:SqL K H1 a xs) (hm:RqL H1 xs ds)
    (hs:∀ v d H2,Rq H2 v d→d ∈ ds→Same H1 H2→∀ P:VK,(∀ y H3,Same H2 H3→Rq (nu H2 H3) y d→P y H3)→g v (List.replicate k none ++ capσ js σ) H2 fun σ2 H3=>σ2.drop k = capσ js σ∧te σ2 H3 P)
    (hq:∀ D H' ys,Same H1 H'→H1 D = none→H' D = some (.lst ys)→RqL (nu H1 H') ys ds→Q (.ref D) H'):CGoal (Itl K a) g te k js σ H1 Q:=by
  unfold CGoal
  intro D hD
  have hl := hm.len
  refine ⟨fun i m H=>m = xs.length - i∧i ≤ xs.length∧Same H1 H∧∃ ys,H D = some (.lst ys)∧RqL (nu (upd H1 D (.lst [])) H) ys (ds.take i),⟨xs.length,by simp,Nat.zero_le _,same_upd hD,[],upd_same,.nil⟩,?_⟩
  rintro i m H ⟨rfl, hi, sm, ys, hH, ar⟩
  have sq := sm.seq hx
  by_cases hlt : i < xs.length
  · have e : xs[i]? = some xs[i] := by simp [hlt]
    refine .inr ⟨⟨xs, _, sq, e⟩, fun x H' y => ?_⟩
    obtain ⟨e1, e2⟩ := y
    subst e1
    have hv := e2 xs sq
    obtain ⟨d, hd, hR⟩ := hm.get hv
    have yl : ys.length < sizeLine := by
      rw [ar.len, List.length_take]
      exact Nat.lt_of_le_of_lt (Nat.min_le_left _ _) (Nat.lt_of_lt_of_le hlt (Nat.le_trans hz (by decide)))
    refine hs x d _ (hR.up sm) (List.mem_of_getElem? hd) sm _ fun y H3 s3 r3=>⟨_,s3 _ _ hH,yl,xs.length - (i + 1),by omega,rfl,hlt,same_app' (sm.trans s3) hD,ys ++ [y],upd_same,?_⟩
    rw [List.take_add_one, hd]
    refine RqL.snoc ((r3.up (nu_less fun b e=>?_)).up nu_upd) ((ar.up (nu_up s3)).up nu_upd)
    by_cases z : b = D
    · rw [z, hH] at e
      cases e
    · rw [upd_ne z]
      exact none_back sm e
  · have e : i = xs.length := by omega
    subst e
    rw [hl, List.take_length] at ar
    exact .inl ⟨⟨xs,sq,Nat.le_refl _⟩,hq D _ ys sm hD hH (ar.up (nu_less nu_old))⟩
theorem comp_cpT {K:PySem.W.Frag} {a:Addr} {xs:List V} {ds:List PyData} {g:TG} {te:TE} {k:Nat} {js:List Nat} {σ:L2.St} {H1:Hp} {Q:VK} (hz:xs.length ≤ 1000) (hx:SqT K H1 a xs) (hm:RqL H1 xs ds)
    (hs:∀ v d H2,Rq H2 v d→d ∈ ds→Same H1 H2→∀ P:VK,(∀ y H3,Same H2 H3→Rq (nu H2 H3) y d→P y H3)→g v (List.replicate k none ++ capσ js σ) H2 fun σ2 H3=>σ2.drop k = capσ js σ∧te σ2 H3 P)
    (hq:∀ D H' ys,Same H1 H'→H1 D = none→H' D = some (.lst ys)→RqL (nu H1 H') ys ds→Q (.ref D) H'):CGoal (Itt K a) g te k js σ H1 Q:=by
  unfold CGoal
  intro D hD
  have hl := hm.len
  refine ⟨fun i m H=>m = xs.length - i∧i ≤ xs.length∧Same H1 H∧∃ ys,H D = some (.lst ys)∧RqL (nu (upd H1 D (.lst [])) H) ys (ds.take i),⟨xs.length,by simp,Nat.zero_le _,same_upd hD,[],upd_same,.nil⟩,?_⟩
  rintro i m H ⟨rfl, hi, sm, ys, hH, ar⟩
  have sq := sm_sqT sm hx
  by_cases hlt : i < xs.length
  · have e : xs[i]? = some xs[i] := by simp [hlt]
    refine .inr ⟨⟨xs, _, sq, e⟩, fun x H' y => ?_⟩
    obtain ⟨e1, e2⟩ := y
    subst e1
    have hv := e2 xs sq
    obtain ⟨d, hd, hR⟩ := hm.get hv
    have yl : ys.length < sizeLine := by
      rw [ar.len, List.length_take]
      exact Nat.lt_of_le_of_lt (Nat.min_le_left _ _) (Nat.lt_of_lt_of_le hlt (Nat.le_trans hz (by decide)))
    refine hs x d _ (hR.up sm) (List.mem_of_getElem? hd) sm _ fun y H3 s3 r3=>⟨_,s3 _ _ hH,yl,xs.length - (i + 1),by omega,rfl,hlt,same_app' (sm.trans s3) hD,ys ++ [y],upd_same,?_⟩
    rw [List.take_add_one, hd]
    refine RqL.snoc ((r3.up (nu_less fun b e=>?_)).up nu_upd) ((ar.up (nu_up s3)).up nu_upd)
    by_cases z : b = D
    · rw [z, hH] at e
      cases e
    · rw [upd_ne z]
      exact none_back sm e
  · have e : i = xs.length := by omega
    subst e
    rw [hl, List.take_length] at ar
    exact .inl ⟨⟨xs,sq,Nat.le_refl _⟩,hq D _ ys sm hD hH (ar.up (nu_less nu_old))⟩
def Cp : Nat → PyData → Prop
  | 0, _ => False
  | _ + 1, .str _ => True
  | n + 1, .list ds => ds.length ≤ 1000 ∧ ∀ d ∈ ds, Cp n d
  | n + 1, .tuple ds => ds.length ≤ 1000 ∧ ∀ d ∈ ds, Cp n d
  | _, _ => False
def spR_copied : Nat → PySem.W.Frag → List Int → Sp
  | 0, _, _ => fun _ _ _ _ => False
  | n + 1, K, ns => fun vs H Q _ => match vs with
    | [v]=>∃ d,(Rq H v d∧Cp (n + 1) d)∧∀ v' H',Same H H'→Rq (nu H H') v' d→Q v' H'
    | _ => False
def sp_copied (K:PySem.W.Frag) (ns:List Int):Sp:=spR_copied 4 K ns
theorem sc_copied:FnScope ["thing"] ["thing"] (defScope s_copied):=⟨rfl,rfl,rfl,by decide +kernel,rfl,by decide +kernel,by decide +kernel⟩
theorem okS_copied (d:Dfn K mg "copied" s_copied ["thing"]) (er:Errs K mg c_LadderError c_NoBook c_NoFit c_NoGame c_NoNumber c_NoPlayer c_NoRow c_NoStretch c_NoTable c_NoTree c_NoWorth) (n_isinstance:mg "isinstance" = none) (n_tuple:mg "tuple" = none) (n_list:mg "list" = none)    (dd:Nat) (c_copied:Cal P w K mg base "copied" ["thing"] (1 + dd) (spR_copied dd K ns)):Cal P w K mg base "copied" ["thing"] (1 + (dd + 1)) (spR_copied (dd + 1) K ns):=by
  refine d.cal (k:=1 + dd) sc_copied (fun vs H Q E h=>?_) (fun f cdv A outer s H vs Q E hr h=>?_)
  · match vs, h with
    | [v], _ => rfl
  · match vs, h with
    | [v], hq0 =>
      obtain ⟨d, ⟨hR, hC⟩, k⟩ := hq0
      refine ⟨_,(@pss_cons _ _ _ _ _ (@s_if _ _ _ _ _ _ _ _ (@t_val _ _ _ (@pe_callB _ _ _ _ _ _ _ _ _ c_isi (by rfl) n_isinstance (by decide +kernel) (@pa_cons _ _ _ _ _ (dv 0) (@pa_cons _ _ _ _ _ (e_ty "list" (by rfl) n_list (by decide +kernel)) pa_nil (by rfl)) (by rfl)) (by decide) (by decide) (by rfl) (by rfl)) (by intro _; rfl)) (@pss_one _ _ _ (@ps_ret _ _ _ _ (@e_compN _ _ _ _ _ _ _ _ _ _ ["part"] [] [] rfl (@pi_list _ _ _ _ (dv 0)) (fun C s H fp=>(@pg_name _ _ (0) _ (show List.Nodup [("part":Str)] by decide +kernel) rfl (by first | exact Or.inl rfl | exact Or.inr rfl) (by first | exact .inl rfl | exact .inr rfl | assumption))) (fun C s H fp=>(@e_call _ _ _ _ _ _ _ _ _ _ _ c_copied hr (by omega) (by rfl) (@pa_cons _ _ _ _ _ (dv 0) pa_nil (by rfl)) (by decide) (by rfl) (by rfl))) rfl rfl (by decide +kernel) (by decide +kernel) (by rfl) True.intro True.intro (by intro _; rfl)))) pss_nil) (@pss_cons _ _ _ _ _ (@s_if _ _ _ _ _ _ _ _ (@t_val _ _ _ (@pe_callB _ _ _ _ _ _ _ _ _ c_isi (by rfl) n_isinstance (by decide +kernel) (@pa_cons _ _ _ _ _ (dv 0) (@pa_cons _ _ _ _ _ (e_ty "tuple" (by rfl) n_tuple (by decide +kernel)) pa_nil (by rfl)) (by rfl)) (by decide) (by decide) (by rfl) (by rfl)) (by intro _; rfl)) (@pss_one _ _ _ (@ps_ret _ _ _ _ (@pe_callTy _ _ _ _ _ _ _ _ _ c_tupN (by rfl) n_tuple (by decide +kernel) (@pa_cons _ _ _ _ _ (@e_compN _ _ _ _ _ _ _ _ _ _ ["part"] [] [] rfl (@pi_tup _ _ _ _ (dv 0)) (fun C s H fp=>(@pg_name _ _ (0) _ (show List.Nodup [("part":Str)] by decide +kernel) rfl (by first | exact Or.inl rfl | exact Or.inr rfl) (by first | exact .inl rfl | exact .inr rfl | assumption))) (fun C s H fp=>(@e_call _ _ _ _ _ _ _ _ _ _ _ c_copied hr (by omega) (by rfl) (@pa_cons _ _ _ _ _ (dv 0) pa_nil (by rfl)) (by decide) (by rfl) (by rfl))) rfl rfl (by decide +kernel) (by decide +kernel) (by rfl) True.intro True.intro (by intro _; rfl)) pa_nil (by rfl)) (by decide) (by decide) (by rfl) (by rfl)))) pss_nil) (@pss_one _ _ _ (@ps_ret _ _ _ _ (dv 0))))),?_⟩
      cases hR with
      | str x=>exact ⟨false,rfl,⟨fun h=>nb h,fun _=>⟨false,rfl,⟨fun h=>nb h,fun _=>k _ _ (Same.refl _) (.str x)⟩⟩⟩⟩
      | @lst p xs ds h r =>
        refine ⟨_,true,"list",h,rfl,rfl,⟨fun _=>?_,fun h=>nb h⟩⟩
        refine ⟨p,rfl,⟨_,SqL.of h⟩,comp_cp (by rw [r.len]; exact hC.1) (SqL.of h) r ?_ ?_⟩
        · intro v d H2 hd hm s2 P hP
          cases dd with
          | zero => exact (hC.2 d hm).elim
          | succ n=>exact ⟨rfl,d,⟨hd,hC.2 d hm⟩,fun y H3 s3 r3=>hP y H3 s3 r3⟩
        · intro D H2 ys s2 n2 e2 r2
          exact k _ H2 s2 (.lst (p:=D) (xs:=ys) (by rw [nu_new n2]; exact e2) r2)
      | @tup p xs ds h r =>
        refine ⟨_,false,"tuple",h,rfl,rfl,⟨fun h=>nb h,fun _=>?_⟩⟩
        refine ⟨_,true,"tuple",h,rfl,rfl,⟨fun _=>?_,fun h=>nb h⟩⟩
        refine ⟨p,rfl,⟨_,SqT.of h⟩,comp_cpT (by rw [r.len]; exact hC.1) (SqT.of h) r ?_ ?_⟩
        · intro v d H2 hd hm s2 P hP
          cases dd with
          | zero => exact (hC.2 d hm).elim
          | succ n=>exact ⟨rfl,d,⟨hd,hC.2 d hm⟩,fun y H3 s3 r3=>hP y H3 s3 r3⟩
        · intro D H2 ys s2 n2 e2 r2
          refine ⟨ys,SqL.of e2,fun T H3 s3 n3 e3=>k _ H3 (s2.trans s3) (.tup (p:=T) (xs:=ys) ?_ (r2.up (nu_up s3)))⟩
          rw [nu_new (none_back s2 n3)]
          exact e3
theorem okR_copied (d:Dfn K mg "copied" s_copied ["thing"]) (er:Errs K mg c_LadderError c_NoBook c_NoFit c_NoGame c_NoNumber c_NoPlayer c_NoRow c_NoStretch c_NoTable c_NoTree c_NoWorth) (n_isinstance:mg "isinstance" = none) (n_tuple:mg "tuple" = none) (n_list:mg "list" = none)  : ∀ dd:Nat,Cal P w K mg base "copied" ["thing"] (1 + dd) (spR_copied dd K ns)
  | 0=>d.cal (k:=0) sc_copied (fun vs H Q E h=>False.elim h) (fun f cdv A outer s H vs Q E hr h=>False.elim h)
  | dd + 1=>okS_copied d er n_isinstance n_tuple n_list dd (okR_copied d er n_isinstance n_tuple n_list dd)
theorem ok_copied (d:Dfn K mg "copied" s_copied ["thing"]) (er:Errs K mg c_LadderError c_NoBook c_NoFit c_NoGame c_NoNumber c_NoPlayer c_NoRow c_NoStretch c_NoTable c_NoTree c_NoWorth) (n_isinstance:mg "isinstance" = none) (n_tuple:mg "tuple" = none) (n_list:mg "list" = none)  :Cal P w K mg base "copied" ["thing"] 5 (sp_copied K ns):=okR_copied d er n_isinstance n_tuple n_list 4
def sp_NoFit___init__ (K:PySem.W.Frag) (ns:List Int):Sp:=fun vs H Q _=>match vs with
  | [.ref x,v]=>∃ C d,(PySem.W.nsIn K mainGlobals "NoFit" = some (some (.ref C))∧H x = some (.ext (ExcAt x C none true))∧Rq H v d∧Cp 4 d)∧∀ dx v' H',Same (del H x) H'→H dx = none→dx ≠ x→Rq (del H' x) v' d→H' dx = some (.xd [(Str.ofString "verdict",v')])→H' x = some (.ext (ExcAt x C (some dx) true))→Q .non H'
  | _ => False
theorem sc_NoFit___init__:FnScope ["self","verdict"] ["self","verdict"] (defScope s_NoFit___init__):=⟨rfl,rfl,rfl,by decide +kernel,rfl,by decide +kernel,by decide +kernel⟩
theorem ok_NoFit___init__ (d:DfnM K [c_NoFit] [] "__init__" "NoFit.__init__" s_NoFit___init__ ["self","verdict"]) (er:Errs K mg c_LadderError c_NoBook c_NoFit c_NoGame c_NoNumber c_NoPlayer c_NoRow c_NoStretch c_NoTable c_NoTree c_NoWorth)   (c_copied:Cal P w K mg base "copied" ["thing"] 5 (sp_copied K ns)):CalM P w K mg base [c_NoFit] [] "__init__" ["self","verdict"] 6 (sp_NoFit___init__ K ns):=by
  refine d.cal (k:=5) sc_NoFit___init__ (fun vs H Q E h=>?_) (fun f cdv A outer s H vs Q E hr h=>?_)
  · match vs, h with
    | [.ref x, v], _ => rfl
  · match vs, h with
    | [.ref x, v], hq0 =>
      obtain ⟨C, dt, ⟨hN, hx, hR, hC⟩, k⟩ := hq0
      refine ⟨_,(@pss_cons _ _ _ _ _ (@ps_expr _ _ _ _ (@e_initX _ _ _ _ _ _ _ _ _ _ er.r_LadderError er.fi_LadderError (by rfl) er.b_LadderError (@pa_cons _ _ _ _ _ (dv 0) (@pa_cons _ _ _ _ _ pe_str pa_nil (by rfl)) (by rfl)) (by decide) (by rfl) (by rfl) (by rfl)) (by rfl)) (@pss_one _ _ _ (@ps_fldX _ _ _ _ _ _ _ _ (dv 0) (@e_call _ _ _ _ _ _ _ _ _ _ _ c_copied hr (by decide) (by rfl) (@pa_cons _ _ _ _ _ (dv 1) pa_nil (by rfl)) (by decide) (by rfl) (by rfl)) (by rfl)))),?_⟩
      obtain rfl := ns_inj hN er.y_NoFit
      obtain ⟨f, hf⟩ := er.ei_NoFit.ex
      refine ⟨x,_,f,none,true,_,rfl,hx,hf,dt,⟨hR,hC⟩,fun v' H1 s1 r1=>?_⟩
      refine ⟨x,_,true,rfl,s1 _ _ hx,er.x_NoFit,er.es_NoFit,er.na_NoFit_verdict,fun dx n1 ne=>?_⟩
      refine k dx v' _ (fun b o e=>?_) (none_back s1 n1) ne (r1.up fun b o e=>?_) (by rw [upd_ne ne,upd_same]) upd_same
      · have hb:b ≠ x:=fun z=>by rw [z,del_same] at e; cases e
        rw [del_ne hb] at e
        have e1 := s1 _ _ e
        rw [upd_ne hb, upd_ne (ne_of_none e1 n1)]
        exact e1
      · obtain ⟨e1, e2⟩ := nu_get e
        have hb:b ≠ x:=fun z=>by rw [z,hx] at e1; cases e1
        rw [del_ne hb, upd_ne hb, upd_ne (ne_of_none e2 n1)]
        exact e2
theorem kv_strs (l:List Str):(l.map (Sum.inr:Str→Key)).map kV = l.map V.str:=by
  rw [List.map_map]
  rfl
def EdAt (n:Nat) (H:Hp) (v:V) (q:Q2):Prop:=(v = .non∧q = (1,1)) ∨ ∃ p,v = .ref p∧Fq n H p q.1 q.2∧0 < q.1
def wOf : List Str → List Q2 → Str → Q2
  | n :: ns, q :: qs, x => if n = x then q else wOf ns qs x
  | _, _, _ => (1, 1)
theorem EdAt.up {n:Nat} {H H':Hp} {v:V} {q:Q2} (s:Same H H') (h:EdAt n H v q):EdAt n H' v q:=by
  rcases h with h | ⟨p, e, f, z⟩
  · exact .inl h
  · exact .inr ⟨p, e, f.up s, z⟩
section
variable (val : Str → Q2) (z : Q2)
end
theorem bd1 (m : Nat) : Bd (m + 1) 1 := by
  show (1 : Int).natAbs < 2 ^ (m + 1)
  exact Nat.one_lt_two_pow (Nat.succ_ne_zero m)
theorem EdAt.bd {n:Nat} {H:Hp} {v:V} {q:Q2} (h:EdAt n H v q) (l:1 ≤ n):Bd n q.1∧Bd n q.2∧0 < q.1∧0 < q.2:=by
  rcases h with ⟨_, rfl⟩ | ⟨p, e, f, z⟩
  · obtain ⟨m, rfl⟩ : ∃ m, n = m + 1 := ⟨n - 1, by omega⟩
    exact ⟨bd1 m, bd1 m, by decide, by decide⟩
  · exact ⟨f.ba, f.bb, z, f.pos⟩
theorem all2_get {α β:Type} {R:α→β→Prop}:∀ {l:List α} {m:List β} {i:Nat} {a:α},All2 R l m→l[i]? = some a→∃ b,m[i]? = some b∧R a b
  | _,_,0,_,.cons r _,h=>by cases h; exact ⟨_,rfl,r⟩
  | _, _, i + 1, _, .cons _ t, h => by
    obtain ⟨b,e,r⟩:=all2_get (i:=i) t (by simpa using h)
    exact ⟨b, by simpa using e, r⟩
theorem rd_up {H H':Hp} {a:Addr} {u:HO} (s:Same H H') (h:Rd H a u):Rd H' a u:=by
  rcases h with h | ⟨o, h⟩
  · exact .inl (s _ _ h)
  · exact .inr ⟨o, s _ _ h⟩
theorem dget_r {H:Hp} {a:Addr} {kvs:List (Key × V)} {k:Key} (e:Rd H a (.dK kvs)):DGet H a (kV k) (valV kvs k):=.inl ⟨kvs,k,e,rfl,rfl⟩
section
variable (val : Str → Q2) (x z : Q2)
def sA (g : Gm) : Int := odA x (val g.b) z g.s
def sB (g : Gm) : Int := odB x (val g.b) z g.s
def osT:List Gm→Int × Int:=List.foldl (fun t g=>(t.1 * (sA val x z g + sB val x z g) + sA val x z g * t.2,t.2 * (sA val x z g + sB val x z g))) (0,1)
def osH : List Gm → Int := List.foldl (fun t g => t + g.h) 0
end
structure BL (nm : List Str) (gs : List Gm) : Prop where
  mem : ∀ g ∈ gs, g.a ∈ nm ∧ g.b ∈ nm
  ne : ∀ g ∈ gs, g.a ≠ g.b
  h0 : ∀ g ∈ gs, 0 ≤ g.h ∧ g.h ≤ 2
theorem BL.nil {nm:List Str}:BL nm []:=⟨fun g h=>absurd h (by simp),fun g h=>absurd h (by simp),fun g h=>absurd h (by simp)⟩
theorem BL.snoc {nm:List Str} {gs:List Gm} {g:Gm} (h:BL nm gs) (h1:g.a ∈ nm∧g.b ∈ nm) (h2:g.a ≠ g.b) (h3:0 ≤ g.h∧g.h ≤ 2):BL nm (gs ++ [g]):=by
  have one:∀ {P:Gm→Prop},(∀ x ∈ gs,P x)→P g→∀ x ∈ gs ++ [g],P x:=fun a b x hx=>by
    rcases List.mem_append.mp hx with hx | hx
    · exact a x hx
    · rw [List.mem_singleton] at hx
      subst hx
      exact b
  exact ⟨one h.mem h1, one h.ne h2, one h.h0 h3⟩
def BkL (H:Hp) (D:Addr) (gs:List Gm):Prop:=∃ vs,H D = some (.lst vs)∧All2 (GmAt H) vs gs
theorem BkL.bk {K:PySem.W.Frag} {H:Hp} {D:Addr} {gs:List Gm} (h:BkL H D gs) (l:gs.length ≤ 100):Bk K H D gs:=by
  obtain ⟨vs, e, a⟩ := h
  exact ⟨vs, SqL.of e, a, l⟩
theorem bkl_app {H0 H:Hp} {D T:Addr} {vs:List V} {gs:List Gm} {g:Gm} (h:H D = some (.lst vs)) (a:All2 (GmAt H) vs gs) (e:H T = some (.tup [.int g.d,.str g.a,.str g.b,.int g.h,.int g.s])):BkL (upd H D (.lst (vs ++ [.ref T]))) D (gs ++ [g]):=by
  have kt:Kt H (upd H D (.lst (vs ++ [.ref T]))):=kt_upd h
  exact ⟨_,upd_same,(a.imp fun v g r=>gm_up v g _ _ kt r).snoc ⟨T,rfl,kt _ _ e⟩⟩
theorem nxt_ne {a d m:Int} (a0:0 ≤ a) (a1:a < m) (d0:0 < d) (d1:d < m):0 ≤ (a + d) % m∧(a + d) % m < m∧(a + d) % m ≠ a:=by
  refine ⟨Int.emod_nonneg _ (by omega),Int.emod_lt_of_pos _ (by omega),?_⟩
  by_cases h : a + d < m
  · rw [Int.emod_eq_of_lt (by omega) h]
    omega
  · have e : a + d = (a + d - m) + m := by omega
    rw [e,Int.add_emod_right,Int.emod_eq_of_lt (by omega) (by omega)]
    omega
theorem all2_int:∀ (l:List Int),All2 (fun v m=>v = V.int m) (l.map V.int) l
  | [] => .nil
  | _ :: l => .cons rfl (all2_int l)
theorem a2_map {β γ:Type} {R:V→γ→Prop} {f:β→γ}:∀ {l:List β} {ys:List V},All2 (fun x y=>R y (f x)) l ys→All2 R ys (l.map f)
  | _, _, .nil => .nil
  | _, _, .cons h t => .cons h (a2_map t)
def W0 (n:Nat) (H:Hp) (v:V) (q:Q2):Prop:=∃ p,v = .ref p∧Fq n H p q.1 q.2∧0 ≤ q.1
theorem w0_up {n:Nat} (v:V) (q:Q2) (H H':Hp) (k:Kt H H') (h:W0 n H v q):W0 n H' v q:=by
  obtain ⟨p, e, f, z⟩ := h
  exact ⟨p, e, ⟨k _ _ f.at', f.pos, f.ba, f.bb⟩, z⟩
def N0At (n:Nat) (H:Hp) (D:Addr) (names:List Str) (qs:List Q2):Prop:=∃ vs,Rd H D (.dK ((names.map Sum.inr).zip vs))∧All2 (W0 n H) vs qs
def N1At (n:Nat) (H:Hp) (D:Addr) (names:List Str) (qs:List Q2):Prop:=∃ vs,H D = some (.dK ((names.map Sum.inr).zip vs))∧All2 (W0 n H) vs qs
theorem N1At.n0 {n:Nat} {H:Hp} {D:Addr} {names:List Str} {qs:List Q2} (h:N1At n H D names qs):N0At n H D names qs:=by
  obtain ⟨vs, e, a⟩ := h
  exact ⟨vs, .inl e, a⟩
theorem nw0_get {n:Nat} {H:Hp} {x:Str}:∀ {names:List Str} {vs:List V} {qs:List Q2},All2 (W0 n H) vs qs→names.length = qs.length→x ∈ names →
    ∃ v,valV ((names.map (Sum.inr:Str→Key)).zip vs) (Sum.inr x) = some v∧W0 n H v (wOf names qs x)
  | [], _, _, _, _, h => by simp at h
  | _ :: _, _, _, .nil, h, _ => by simp at h
  | m :: names,_,_,.cons (a:=v) (b:=q) r t,hl,h=>by
    by_cases e : m = x
    · subst e
      refine ⟨v, ?_, ?_⟩
      · simp [valV]
      · simp only [wOf, if_true]
        exact r
    · have h : x ∈ names := by
        rcases List.mem_cons.mp h with z | z
        · exact absurd z.symm e
        · exact z
      obtain ⟨u, e1, e2⟩ := nw0_get t (by simpa using hl) h
      refine ⟨u, ?_, ?_⟩
      · have ne:¬ ((Sum.inr m:Key) = Sum.inr x):=fun z=>e (Sum.inr.inj z)
        rw [← e1]
        simp [valV, ne]
      · simp only [wOf, if_neg e]
        exact e2
theorem odB_nn {x y z:Q2} {s:Int} (h1:0 ≤ y.1) (h2:0 < x.2) (h3:0 < z.1) (h4:0 < z.2):0 ≤ odB x y z s:=by
  unfold odB
  have := Int.mul_nonneg h1 (Int.le_of_lt h2)
  split
  · assumption
  · split
    · exact Int.mul_nonneg this (Int.le_of_lt h4)
    · exact Int.mul_nonneg this (Int.le_of_lt h3)
def sp_own_sum (K:PySem.W.Frag) (ns:List Int):Sp:=fun vs H Q _=>match vs with
  | [.ref T,.ref p,.ref D,e]=>∃ n gs names qs x z,(Bk K H T gs∧(3 * n + 2) * gs.length + 40 ≤ 4000∧∀ g ∈ gs,0 ≤ g.h∧g.h ≤ 2)∧(1 ≤ n∧n ≤ 400)∧(Fq n H p x.1 x.2∧0 < x.1)∧(N0At n H D names qs∧names.length = qs.length∧∀ g ∈ gs,g.b ∈ names)∧EdAt n H e z ∧
    ∀ r H',Same H H'→H' r = some (.tup [.int (2 * (osT (wOf names qs) x z gs).1 - osH gs * (osT (wOf names qs) x z gs).2),.int (2 * (osT (wOf names qs) x z gs).2)])→0 < (osT (wOf names qs) x z gs).2→Bd 3990 (osT (wOf names qs) x z gs).2→Q (.ref r) H'
  | _ => False
theorem sc_own_sum:FnScope ["told","worth","named","edge","top","bottom","halves","played","pair","whole"] ["told","worth","named","edge"] (defScope s_own_sum):=⟨rfl,rfl,rfl,by decide +kernel,rfl,by decide +kernel,by decide +kernel⟩
theorem ok_own_sum (d:Dfn K mg "own_sum" s_own_sum ["told","worth","named","edge"]) (er:Errs K mg c_LadderError c_NoBook c_NoFit c_NoGame c_NoNumber c_NoPlayer c_NoRow c_NoStretch c_NoTable c_NoTree c_NoWorth)   (c_odds:Cal P w K mg base "odds" ["worth","other","side","edge"] 1 (sp_odds K ns)):Cal P w K mg base "own_sum" ["told","worth","named","edge"] 2 (sp_own_sum K ns):=by
  refine d.cal (k:=1) sc_own_sum (fun vs H Q E h=>?_) (fun f cdv A outer s H vs Q E hr h=>?_)
  · match vs, h with
    | [.ref T, .ref p, .ref D, e], _ => rfl
  · match vs, h with
    | [.ref T, .ref p, .ref D, e], hq0 =>
      obtain ⟨n,gs,names,qs,x,z,⟨hB,hb,hh⟩,hn,⟨fx,zx⟩,⟨⟨us,eD,hm1⟩,hl,hin⟩,he,k⟩:=hq0
      refine ⟨_,(@pss_cons _ _ _ _ _ (@ps_set _ _ (4) _ _ _ _ sc_own_sum.nd rfl (by first | exact Or.inl rfl | exact Or.inr rfl) pe_int (by rfl) (by first | exact .inl rfl | exact .inr rfl | assumption)) (@pss_cons _ _ _ _ _ (@ps_set _ _ (5) _ _ _ _ sc_own_sum.nd rfl (by first | exact Or.inl rfl | exact Or.inr rfl) pe_int (by rfl) (by first | exact .inl rfl | exact .inr rfl | assumption)) (@pss_cons _ _ _ _ _ (@ps_set _ _ (6) _ _ _ _ sc_own_sum.nd rfl (by first | exact Or.inl rfl | exact Or.inr rfl) pe_int (by rfl) (by first | exact .inl rfl | exact .inr rfl | assumption)) (@pss_cons _ _ _ _ _ (@ps_for _ _ _ _ _ _ _ _ PassesOwn.never rfl (@pi_list _ _ _ _ (dv 0)) (@pg_name _ _ (7) _ sc_own_sum.nd rfl (by first | exact Or.inl rfl | exact Or.inr rfl) (by first | exact .inl rfl | exact .inr rfl | assumption)) (@pss_cons _ _ _ _ _ (@ps_set _ _ (8) _ _ _ _ sc_own_sum.nd rfl (by first | exact Or.inl rfl | exact Or.inr rfl) (@e_call _ _ _ _ _ _ _ _ _ _ _ c_odds hr (by decide) (by rfl) (@pa_cons _ _ _ _ _ (dv 1) (@pa_cons _ _ _ _ _ (@pe_dget _ _ _ _ _ _ (@u1 _ _ hr.units) (dv 2) (@pe_ix _ _ _ _ _ _ _ i_tup (dv 7) pe_int (fun _ _=>rfl)) (fun _ _=>rfl)) (@pa_cons _ _ _ _ _ (@pe_ix _ _ _ _ _ _ _ i_tup (dv 7) pe_int (fun _ _=>rfl)) (@pa_cons _ _ _ _ _ (dv 3) pa_nil (by rfl)) (by rfl)) (by rfl)) (by rfl)) (by decide) (by rfl) (by rfl)) (by rfl) (by first | exact .inl rfl | exact .inr rfl | assumption)) (@pss_cons _ _ _ _ _ (@ps_set _ _ (9) _ _ _ _ sc_own_sum.nd rfl (by first | exact Or.inl rfl | exact Or.inr rfl) (@pe_op _ _ _ _ _ _ _ _ o_add (@pe_ix _ _ _ _ _ _ _ i_tup (dv 8) pe_int (fun _ _=>rfl)) (@pe_ix _ _ _ _ _ _ _ i_tup (dv 8) pe_int (fun _ _=>rfl))) (by rfl) (by first | exact .inl rfl | exact .inr rfl | assumption)) (@pss_cons _ _ _ _ _ (@ps_set _ _ (4) _ _ _ _ sc_own_sum.nd rfl (by first | exact Or.inl rfl | exact Or.inr rfl) (@pe_op _ _ _ _ _ _ _ _ o_add (@pe_op _ _ _ _ _ _ _ _ o_mul (dv 4) (dv 9)) (@pe_op _ _ _ _ _ _ _ _ o_mul (@pe_ix _ _ _ _ _ _ _ i_tup (dv 8) pe_int (fun _ _=>rfl)) (dv 5))) (by rfl) (by first | exact .inl rfl | exact .inr rfl | assumption)) (@pss_cons _ _ _ _ _ (@ps_set _ _ (5) _ _ _ _ sc_own_sum.nd rfl (by first | exact Or.inl rfl | exact Or.inr rfl) (@pe_op _ _ _ _ _ _ _ _ o_mul (dv 5) (dv 9)) (by rfl) (by first | exact .inl rfl | exact .inr rfl | assumption)) (@pss_one _ _ _ (@ps_set _ _ (6) _ _ _ _ sc_own_sum.nd rfl (by first | exact Or.inl rfl | exact Or.inr rfl) (@pe_op _ _ _ _ _ _ _ _ o_add (dv 6) (@pe_ix _ _ _ _ _ _ _ i_tup (dv 7) pe_int (fun _ _=>rfl))) (by rfl) (by first | exact .inl rfl | exact .inr rfl | assumption))))))) (by intro _; rfl)) (@pss_one _ _ _ (@ps_ret _ _ _ _ (@e_tup _ _ _ _ _ (@pa_cons _ _ _ _ _ (@pe_op _ _ _ _ _ _ _ _ o_sub (@pe_op _ _ _ _ _ _ _ _ o_mul pe_int (dv 4)) (@pe_op _ _ _ _ _ _ _ _ o_mul (dv 6) (dv 5))) (@pa_cons _ _ _ _ _ (@pe_op _ _ _ _ _ _ _ _ o_mul pe_int (dv 5)) pa_nil (by rfl)) (by rfl))))))))),?_⟩
      obtain ⟨gv, hg, hgm, hgl⟩ := hB
      obtain ⟨val,ev⟩:∃ val,val = wOf names qs:=⟨_,rfl⟩
      rw [← ev] at k
      have zb := he.bd hn.1
      refine ⟨T,rfl,⟨_,hg⟩,for_list (K:=K) (a:=T) (xs:=gv) (fun i σ H'=>∃ (o7 o8 o9:Option V),σ = [some (.ref T),some (.ref p),some (.ref D),some e,some (.int (osT val x z (gs.take i)).1),some (.int (osT val x z (gs.take i)).2),some (.int (osH (gs.take i))),o7,o8,o9]∧Same H H'∧Bd ((3 * n + 2) * i + 1) (osT val x z (gs.take i)).1∧Bd ((3 * n + 2) * i + 1) (osT val x z (gs.take i)).2∧0 < (osT val x z (gs.take i)).2∧0 ≤ osH (gs.take i)∧osH (gs.take i) ≤ 2 * i)
        ⟨_,_,_,rfl,Same.refl _,(bd_lit rfl:Bd 1 0).mono (by omega),bd1 _,(by show (0:Int) < 1; decide),(by show (0:Int) ≤ 0; decide),(by show (0:Int) ≤ 2 * 0; decide)⟩ (fun i σ H' _ ⟨_,_,_,_,s2,_⟩=>s2.seq hg) ?_ ?_⟩
      · rintro i v σ H2 hv ⟨o7,o8,o9,rfl,s2,b1,b2,b3,h0,h1⟩
        obtain ⟨g, eg, q, rfl, eq⟩ := all2_get hgm hv
        have hi:i < gs.length:=(List.getElem?_eq_some_iff.mp eg).1
        have hgi := List.mem_of_getElem? eg
        have ep := s2 _ _ eq
        obtain ⟨u2,e2,p2,rfl,f2,z2⟩:=nw0_get hm1 hl (hin g hgi)
        rw [← ev] at f2 z2
        have eD2 := rd_up s2 eD
        have g2:DGet H2 D (.str g.b) (some (.ref p2)):=e2 ▸ dget_r (k:=Sum.inr g.b) eD2
        have l12 : n ≤ 1200 := by omega
        rcases id he with ⟨rfl, hz⟩ | ⟨q0, rfl, fe, ze⟩
        case' inl =>
          refine ⟨_,ep,D,_,rfl,g2,_,ep,_,_,⟨(fx.up s2).mono l12,(f2.up s2).mono l12⟩,fun r H3 s3 er=>?_⟩
          rw [← hz] at er
        case' inr=>refine ⟨_,ep,D,_,rfl,g2,_,ep,_,_,z,⟨(fx.up s2).mono l12,(f2.up s2).mono l12,(fe.up s2).mono l12⟩,fun r H3 s3 er=>?_⟩
        all_goals
          have ep := s3 _ _ ep
          have bA:Bd (n + n + n) (sA val x z g):=odA_bd fx.ba f2.bb zb.1 zb.2.1
          have bB:Bd (n + n + n) (sB val x z g):=odB_bd f2.ba fx.bb zb.1 zb.2.1
          have pA:0 < sA val x z g:=odA_pos zx f2.pos zb.2.2.1 zb.2.2.2
          have pB:0 ≤ sB val x z g:=odB_nn z2 fx.pos zb.2.2.1 zb.2.2.2
          have tk:gs.take (i + 1) = gs.take i ++ [g]:=by rw [List.take_add_one,eg]; rfl
          have bS:Bd (n + n + n + 1) (sA val x z g + sB val x z g):=bA.add bB
          have wT:osT val x z (gs.take (i + 1)) = ((osT val x z (gs.take i)).1 * (sA val x z g + sB val x z g) + sA val x z g * (osT val x z (gs.take i)).2,(osT val x z (gs.take i)).2 * (sA val x z g + sB val x z g)):=by rw [tk]; exact List.foldl_append ..
          have wH:osH (gs.take (i + 1)) = osH (gs.take i) + g.h:=by rw [tk]; exact List.foldl_append ..
          have hmul:(3 * n + 2) * i + (3 * n + 2) = (3 * n + 2) * (i + 1):=by rw [Nat.mul_add,Nat.mul_one]
          have hle:(3 * n + 2) * (i + 1) ≤ (3 * n + 2) * gs.length:=Nat.mul_le_mul_left _ hi
          have hg2 := hh g hgi
          refine ⟨_,er,_,er,cok b1 bS (by omega) (by omega),_,er,cok bA b2 (by omega) (by omega),cok b2 bS (by omega) (by omega),_,ep,some (.ref q),some (.ref r),some (.int (sA val x z g + sB val x z g)),?_,s2.trans s3,?_,?_,?_,?_,?_⟩
          · rw [wT, wH]
            rfl
          · rw [wT]
            exact (Bd.add ((b1.mul bS).mono (Nat.le_refl _)) ((bA.mul b2).mono (by omega))).mono (by omega)
          · rw [wT]
            exact (b2.mul bS).mono (by omega)
          · rw [wT]
            exact Int.mul_pos b3 (by omega)
          · rw [wH]
            omega
          · rw [wH]
            push_cast
            omega
      · rintro σ H2 ⟨o7,o8,o9,rfl,s2,b1,b2,b3,h0,h1⟩
        have el:gs.take gv.length = gs:=by rw [hgm.len]; exact List.take_length
        rw [el] at b1 b2 b3 h0 h1 ⊢
        rw [hgm.len] at b1 b2 h1
        have b4:Bd 20 (osH gs):=bd_of (b:=1000) (by omega) (by omega) (bd_lit rfl)
        exact ⟨cok (bd_lit rfl:Bd 2 2) b1 (by decide) (by omega),cok b4 b2 (by decide) (by omega),cok (bd_lit rfl:Bd 2 2) b2 (by decide) (by omega),fun r H' s3 fr=>k r H' (s2.trans s3) fr b3 (b2.mono (by omega))⟩
def nq (us : List Int) : List Q2 := us.map fun u => (u, 1)
def sp_named_numbers (K:PySem.W.Frag) (ns:List Int):Sp:=fun vs H Q _=>match vs with
  | [.ref L,.ref W]=>∃ gs us,(Bk K H L gs∧(plr gs).length < 64)∧SqL K H W (us.map V.int)∧(us.length = (plr gs).length∧∀ u ∈ us,0 ≤ u∧u ≤ 100000)∧∀ D H',Same H H'→H D = none→N1At 17 H' D (plr gs) (nq us)→Q (.ref D) H'
  | _ => False
theorem sc_named_numbers:FnScope ["games","numbers"] ["games","numbers"] (defScope s_named_numbers):=⟨rfl,rfl,rfl,by decide +kernel,rfl,by decide +kernel,by decide +kernel⟩
theorem ok_named_numbers (d:Dfn K mg "named_numbers" s_named_numbers ["games","numbers"]) (er:Errs K mg c_LadderError c_NoBook c_NoFit c_NoGame c_NoNumber c_NoPlayer c_NoRow c_NoStretch c_NoTable c_NoTree c_NoWorth) (n_dict:mg "dict" = none) (n_zip:mg "zip" = none)  (c_players:Cal P w K mg base "players" ["games"] 1 (sp_players K ns)):Cal P w K mg base "named_numbers" ["games","numbers"] 2 (sp_named_numbers K ns):=by
  refine d.cal (k:=1) sc_named_numbers (fun vs H Q E h=>?_) (fun f cdv A outer s H vs Q E hr h=>?_)
  · match vs, h with
    | [.ref L, .ref W], _ => rfl
  · match vs, h with
    | [.ref L, .ref W], hq0 =>
      obtain ⟨gs, us, hB, hW, ⟨hl, hu⟩, k⟩ := hq0
      refine ⟨_,(@pss_one _ _ _ (@ps_ret _ _ _ _ (@pe_dzip _ true true _ _ _ _ _ _ _ (by rfl) n_dict (by rfl) n_zip (@pa_cons _ _ _ _ _ (@e_call _ _ _ _ _ _ _ _ _ _ _ c_players hr (by decide) (by rfl) (@pa_cons _ _ _ _ _ (dv 0) pa_nil (by rfl)) (by decide) (by rfl) (by rfl)) (@pa_cons _ _ _ _ _ (@e_compN _ _ _ _ _ _ _ _ _ _ ["number"] [] [] rfl (@pi_list _ _ _ _ (dv 1)) (fun C s H fp=>(@pg_name _ _ (0) _ (show List.Nodup [("number":Str)] by decide +kernel) rfl (by first | exact Or.inl rfl | exact Or.inr rfl) (by first | exact .inl rfl | exact .inr rfl | assumption))) (fun C s H fp=>(@e_tup _ _ _ _ _ (@pa_cons _ _ _ _ _ (dv 0) (@pa_cons _ _ _ _ _ pe_int pa_nil (by rfl)) (by rfl)))) rfl rfl (by decide +kernel) (by decide +kernel) (by rfl) True.intro True.intro (by intro _; rfl)) pa_nil (by rfl)) (by rfl)) rfl (by rfl) (by rfl)))),?_⟩
      refine ⟨gs, hB, fun D1 H1 s1 n1 e1 => ?_⟩
      refine ⟨W,rfl,⟨_,s1.seq hW⟩,comp_abs (fun _ v (u:Int)=>v = V.int u) (fun _ _ _ _ _ h=>h) (fun H u y=>W0 17 H y (u,1)) (fun u y H H' kt h=>w0_up y _ H H' kt h) (by rw [List.length_map]; omega) (s1.seq hW) (all2_int us) ?_ ?_⟩
      · intro v u H2 hM hm s2 P hP
        subst hM
        obtain ⟨u0, u1⟩ := hu u hm
        exact ⟨rfl,fun T H3 s3 e3=>hP _ _ s3 ⟨T,rfl,⟨e3,(by show (0:Int) < 1; decide),bd_of (b:=100000) (by omega) (by omega) (bd_lit rfl),bd_lit rfl⟩,u0⟩⟩
      intro D2 H2 ys s2 _ e2 a2
      have a2:All2 (W0 17 H2) ys (nq us):=a2_map (R:=W0 17 H2) (f:=fun u:Int=>((u,1):Q2)) a2
      have ly : ys.length = us.length := by
        rw [a2.len]
        unfold nq
        rw [List.length_map]
      have fin:SqL K H2 D1 (((plr gs).map (Sum.inr:Str→Key)).map kV):=by
        rw [kv_strs]
        exact SqL.of (s2 _ _ e1)
      refine ⟨(plr gs).map Sum.inr,ys,fin,SqL.of e2,by rw [List.length_map]; omega,?_,by rw [List.length_map]; omega,fun D H' hD eH=>?_⟩
      · exact List.pairwise_map.mpr (List.Pairwise.imp (fun n e=>n (Sum.inr.inj e)) (inc_nodup (inc_srt _)))
      · subst eH
        have s12 := s1.trans s2
        exact k D _ (s12.trans (same_upd hD)) (none_back s12 hD) ⟨ys,upd_same,a2.imp fun v q r=>w0_up v q _ _ (kt_of (same_upd hD)) r⟩
def bs (f:Int→Bool) (low high:Int):Int:=if h:low < high then (if f ((low + high) / 2) = true then bs f ((low + high) / 2 + 1) high else bs f low ((low + high) / 2)) else low
termination_by (high - low).toNat
decreasing_by
  · omega
  · omega
theorem bs_lt {f:Int→Bool} {low high:Int} (h:low < high):bs f low high = if f ((low + high) / 2) = true then bs f ((low + high) / 2 + 1) high else bs f low ((low + high) / 2):=by
  rw [bs, dif_pos h]
theorem bs_ge {f:Int→Bool} {low high:Int} (h:¬ low < high):bs f low high = low:=by
  rw [bs, dif_neg h]
theorem bs_prop {f:Int→Bool}:∀ (n:Nat) {low high:Int},(high - low).toNat ≤ n→low ≤ high→low ≤ bs f low high∧bs f low high ≤ high∧(bs f low high < high→f (bs f low high) = false)∧(low < bs f low high→f (bs f low high - 1) = true)
  | n, low, high, hn, h => by
    by_cases c : low < high
    · rw [bs_lt c]
      have m1 : low ≤ (low + high) / 2 := by omega
      have m2 : (low + high) / 2 < high := by omega
      match n, hn with
      | 0, hn => omega
      | n + 1, hn =>
        cases e : f ((low + high) / 2) with
        | true =>
          rw [if_pos rfl]
          obtain ⟨p1,p2,p3,p4⟩:=bs_prop (f:=f) n (low:=(low + high) / 2 + 1) (high:=high) (by omega) (by omega)
          refine ⟨by omega, p2, p3, fun _ => ?_⟩
          by_cases z:bs f ((low + high) / 2 + 1) high = (low + high) / 2 + 1
          · rw [z,show (low + high) / 2 + 1 - 1 = (low + high) / 2 by omega]
            exact e
          · exact p4 (by omega)
        | false =>
          rw [if_neg (by decide)]
          obtain ⟨p1,p2,p3,p4⟩:=bs_prop (f:=f) n (low:=low) (high:=(low + high) / 2) (by omega) m1
          refine ⟨p1, by omega, fun _ => ?_, p4⟩
          by_cases z:bs f low ((low + high) / 2) = (low + high) / 2
          · rw [z]
            exact e
          · exact p3 (by omega)
    · rw [bs_ge c]
      exact ⟨Int.le_refl _,h,fun z=>absurd z c,fun z=>absurd z (Int.lt_irrefl _)⟩
def topN (val:Str→Q2) (z:Q2) (gs:List Gm) (x:Str) (v:Int):Int:=2 * (osT val (v,1) z (tld x gs)).1 - osH (tld x gs) * (osT val (v,1) z (tld x gs)).2
theorem tld_len (x:Str) (gs:List Gm):(tld x gs).length ≤ gs.length:=by
  unfold tld
  rw [List.length_map]
  exact List.length_filter_le _ _
def sp_first_number (K:PySem.W.Frag) (ns:List Int):Sp:=fun vs H Q _=>match vs with
  | [.ref L,.ref W,.str x,e,.int lt,.int la]=>∃ gs us z,(Bk K H L gs∧(plr gs).length < 64∧gs.length ≤ 60∧(∀ g ∈ tld x gs,0 ≤ g.h∧g.h ≤ 2)∧∀ g ∈ tld x gs,g.b ∈ plr gs)∧SqL K H W (us.map V.int)∧(us.length = (plr gs).length∧∀ u ∈ us,0 ≤ u∧u ≤ 100000)∧EdAt 17 H e z∧(1 ≤ la∧la ≤ 100001)∧∀ H',Same H H'→Q (.int (bs (fun v=>decide (topN (wOf (plr gs) (nq us)) z gs x v < lt)) 1 la)) H'
  | _ => False
theorem sc_first_number:FnScope ["games","numbers","name","edge","least_top","last","told","named","low","high","middle"] ["games","numbers","name","edge","least_top","last"] (defScope s_first_number):=⟨rfl,rfl,rfl,by decide +kernel,rfl,by decide +kernel,by decide +kernel⟩
theorem ok_first_number (d:Dfn K mg "first_number" s_first_number ["games","numbers","name","edge","least_top","last"]) (er:Errs K mg c_LadderError c_NoBook c_NoFit c_NoGame c_NoNumber c_NoPlayer c_NoRow c_NoStretch c_NoTable c_NoTree c_NoWorth)   (c_own_sum:Cal P w K mg base "own_sum" ["told","worth","named","edge"] 2 (sp_own_sum K ns)) (c_named_numbers:Cal P w K mg base "named_numbers" ["games","numbers"] 2 (sp_named_numbers K ns)) (c_told_by:Cal P w K mg base "told_by" ["games","name"] 2 (sp_told_by K ns)):Cal P w K mg base "first_number" ["games","numbers","name","edge","least_top","last"] 3 (sp_first_number K ns):=by
  refine d.cal (k:=2) sc_first_number (fun vs H Q E h=>?_) (fun f cdv A outer s H vs Q E hr h=>?_)
  · match vs, h with
    | [.ref L,.ref W,.str x,e,.int lt,.int la],_=>rfl
  · match vs, h with
    | [.ref L, .ref W, .str x, e, .int lt, .int la], hq0 =>
      obtain ⟨gs,us,z,⟨hB,h64,h60,hh,hin⟩,hW,hu,he,hla,k⟩:=hq0
      refine ⟨_,(@pss_cons _ _ _ _ _ (@ps_set _ _ (6) _ _ _ _ sc_first_number.nd rfl (by first | exact Or.inl rfl | exact Or.inr rfl) (@e_call _ _ _ _ _ _ _ _ _ _ _ c_told_by hr (by decide) (by rfl) (@pa_cons _ _ _ _ _ (dv 0) (@pa_cons _ _ _ _ _ (dv 2) pa_nil (by rfl)) (by rfl)) (by decide) (by rfl) (by rfl)) (by rfl) (by first | exact .inl rfl | exact .inr rfl | assumption)) (@pss_cons _ _ _ _ _ (@ps_set _ _ (7) _ _ _ _ sc_first_number.nd rfl (by first | exact Or.inl rfl | exact Or.inr rfl) (@e_call _ _ _ _ _ _ _ _ _ _ _ c_named_numbers hr (by decide) (by rfl) (@pa_cons _ _ _ _ _ (dv 0) (@pa_cons _ _ _ _ _ (dv 1) pa_nil (by rfl)) (by rfl)) (by decide) (by rfl) (by rfl)) (by rfl) (by first | exact .inl rfl | exact .inr rfl | assumption)) (@pss_cons _ _ _ _ _ (@ps_set _ _ (8) _ _ _ _ sc_first_number.nd rfl (by first | exact Or.inl rfl | exact Or.inr rfl) pe_int (by rfl) (by first | exact .inl rfl | exact .inr rfl | assumption)) (@pss_cons _ _ _ _ _ (@ps_set _ _ (9) _ _ _ _ sc_first_number.nd rfl (by first | exact Or.inl rfl | exact Or.inr rfl) (dv 5) (by rfl) (by first | exact .inl rfl | exact .inr rfl | assumption)) (@pss_cons _ _ _ _ _ (@s_while _ _ _ _ _ _ PassesOwn.never (@t_cmp _ _ _ _ _ _ _ _ o_lt (dv 8) (dv 9) (@nomark _ _ (by decide) (by decide))) (@pss_cons _ _ _ _ _ (@ps_set _ _ (10) _ _ _ _ sc_first_number.nd rfl (by first | exact Or.inl rfl | exact Or.inr rfl) (@pe_op _ _ _ _ _ _ _ _ o_div (@pe_op _ _ _ _ _ _ _ _ o_add (dv 8) (dv 9)) pe_int) (by rfl) (by first | exact .inl rfl | exact .inr rfl | assumption)) (@pss_one _ _ _ (@s_if _ _ _ _ _ _ _ _ (@t_cmp _ _ _ _ _ _ _ _ o_lt (@pe_ix _ _ _ _ _ _ _ i_tup (@e_call _ _ _ _ _ _ _ _ _ _ _ c_own_sum hr (by decide) (by rfl) (@pa_cons _ _ _ _ _ (dv 6) (@pa_cons _ _ _ _ _ (@e_tup _ _ _ _ _ (@pa_cons _ _ _ _ _ (dv 10) (@pa_cons _ _ _ _ _ pe_int pa_nil (by rfl)) (by rfl))) (@pa_cons _ _ _ _ _ (dv 7) (@pa_cons _ _ _ _ _ (dv 3) pa_nil (by rfl)) (by rfl)) (by rfl)) (by rfl)) (by decide) (by rfl) (by rfl)) pe_int (fun _ _=>rfl)) (dv 4) (@nomark _ _ (by decide) (by decide))) (@pss_one _ _ _ (@ps_set _ _ (8) _ _ _ _ sc_first_number.nd rfl (by first | exact Or.inl rfl | exact Or.inr rfl) (@pe_op _ _ _ _ _ _ _ _ o_add (dv 10) pe_int) (by rfl) (by first | exact .inl rfl | exact .inr rfl | assumption))) (@pss_one _ _ _ (@ps_set _ _ (9) _ _ _ _ sc_first_number.nd rfl (by first | exact Or.inl rfl | exact Or.inr rfl) (dv 10) (by rfl) (by first | exact .inl rfl | exact .inr rfl | assumption))))))) (@pss_one _ _ _ (@ps_ret _ _ _ _ (dv 8)))))))),?_⟩
      refine ⟨gs, hB, fun T H1 s1 _ bT => ?_⟩
      refine ⟨gs,us,⟨hB.up s1,h64⟩,s1.seq hW,hu,fun D H2 s2 _ nD=>?_⟩
      have nD := nD.n0
      have s12 := s1.trans s2
      have bT := bT.up s2
      have he := he.up s12
      obtain ⟨f,hf⟩:∃ f,f = fun v=>decide (topN (wOf (plr gs) (nq us)) z gs x v < lt):=⟨_,rfl⟩
      rw [← hf] at k
      have lt60:(tld x gs).length ≤ 60:=Nat.le_trans (tld_len x gs) h60
      have hn:(plr gs).length = (nq us).length:=by unfold nq; rw [List.length_map]; exact hu.1.symm
      refine ⟨fun m σ H'=>∃ (lo hi:Int) (o10:Option V),σ = [some (.ref L),some (.ref W),some (.str x),some e,some (.int lt),some (.int la),some (.ref T),some (.ref D),some (.int lo),some (.int hi),o10]∧Same H2 H'∧1 ≤ lo∧lo ≤ hi∧hi ≤ la∧bs f lo hi = bs f 1 la∧m = (hi - lo).toNat,⟨_,1,la,none,rfl,Same.refl _,by decide,hla.1,Int.le_refl _,rfl,rfl⟩,?_⟩
      rintro m σ H3 ⟨lo,hi,o10,rfl,s3,b1,b2,b3,eb,rfl⟩
      refine ⟨fun h => ?_, fun h => ?_⟩
      · have h : lo < hi := of_decide_eq_true h
        have m1 : lo ≤ (lo + hi) / 2 := by omega
        have m2 : (lo + hi) / 2 < hi := by omega
        rw [bs_lt h] at eb
        refine ⟨⟨by decide,bd_lit rfl⟩,fun T2 H4 s4 e4=>?_⟩
        have bm:Bd 17 ((lo + hi) / 2):=bd_of (b:=100001) (by omega) (by omega) (bd_lit rfl)
        have s24 := s3.trans s4
        obtain ⟨vs, rD, aD⟩ := nD
        have fm:Fq 17 H4 T2 (((lo + hi) / 2,1):Q2).1 (((lo + hi) / 2,1):Q2).2:=⟨e4,(by show (0:Int) < 1; decide),bm,bd_lit rfl⟩
        refine ⟨17,tld x gs,plr gs,nq us,((lo + hi) / 2,1),z,⟨bT.up s24,by omega,hh⟩,⟨by decide,by decide⟩,⟨fm,by show 0 < (lo + hi) / 2; omega⟩,⟨⟨vs,rd_up s24 rD,aD.imp fun v q r=>w0_up v q _ _ (kt_of s24) r⟩,hn,hin⟩,he.up s24,fun r H5 s5 e5 _ _=>?_⟩
        have s25 := s24.trans s5
        refine ⟨_, e5, ⟨fun c => ?_, fun c => ?_⟩⟩
        · have c':f ((lo + hi) / 2) = true:=by rw [hf]; exact c
          rw [if_pos c'] at eb
          exact ⟨(hi - ((lo + hi) / 2 + 1)).toNat,by omega,(lo + hi) / 2 + 1,hi,_,rfl,s25,by omega,by omega,b3,eb,rfl⟩
        · have c':f ((lo + hi) / 2) = false:=by rw [hf]; exact c
          rw [if_neg (by rw [c']; decide)] at eb
          exact ⟨((lo + hi) / 2 - lo).toNat,by omega,lo,(lo + hi) / 2,_,rfl,s25,b1,m1,by omega,eb,rfl⟩
      · have h : ¬ lo < hi := of_decide_eq_false h
        rw [bs_ge h] at eb
        have k := k H3 (s12.trans s3)
        rw [← eb] at k
        exact k
def sp_raised (K:PySem.W.Frag) (ns:List Int):Sp:=fun vs H Q _=>match vs with
  | [.ref L,.ref W,.str x,e]=>∃ gs us z,(Bk K H L gs∧(plr gs).length < 64∧gs.length ≤ 60∧(∀ g ∈ tld x gs,0 ≤ g.h∧g.h ≤ 2)∧∀ g ∈ tld x gs,g.b ∈ plr gs)∧SqL K H W (us.map V.int)∧(us.length = (plr gs).length∧∀ u ∈ us,0 ≤ u∧u ≤ 100000)∧EdAt 17 H e z∧∀ H',Same H H'→Q (.int (bs (fun v=>decide (topN (wOf (plr gs) (nq us)) z gs x v < 0)) 1 100000)) H'
  | _ => False
theorem sc_raised:FnScope ["games","numbers","name","edge"] ["games","numbers","name","edge"] (defScope s_raised):=⟨rfl,rfl,rfl,by decide +kernel,rfl,by decide +kernel,by decide +kernel⟩
theorem ok_raised (d:DfnN K mg "raised" s_raised ["games","numbers","name","edge"]) (er:Errs K mg c_LadderError c_NoBook c_NoFit c_NoGame c_NoNumber c_NoPlayer c_NoRow c_NoStretch c_NoTable c_NoTree c_NoWorth)  (v_MOST:Cst mg "MOST" (.int (100000))) (c_first_number:Cal P w K mg base "first_number" ["games","numbers","name","edge","least_top","last"] 3 (sp_first_number K ns)):CalN P w K mg base "raised" ["games","numbers","name","edge"] 4 (sp_raised K ns):=by
  refine d.cal (k:=3) sc_raised (fun vs H Q E h=>?_) (fun f cdv A outer s H vs Q E hr h=>?_)
  · match vs, h with
    | [.ref L, .ref W, .str x, e], _ => rfl
  · match vs, h with
    | [.ref L, .ref W, .str x, e], hq0 =>
      obtain ⟨gs, us, z, hB, hW, hu, he, k⟩ := hq0
      refine ⟨_,(@pss_one _ _ _ (@ps_ret _ _ _ _ (@e_call _ _ _ _ _ _ _ _ _ _ _ c_first_number hr (by decide) (by rfl) (@pa_cons _ _ _ _ _ (dv 0) (@pa_cons _ _ _ _ _ (dv 1) (@pa_cons _ _ _ _ _ (dv 2) (@pa_cons _ _ _ _ _ (dv 3) (@pa_cons _ _ _ _ _ pe_int (@pa_cons _ _ _ _ _ (g_cst v_MOST (by rfl)) pa_nil (by rfl)) (by rfl)) (by rfl)) (by rfl)) (by rfl)) (by rfl)) (by decide) (by rfl) (by rfl)))),?_⟩
      exact ⟨gs,us,z,hB,hW,hu,he,⟨by decide,by decide⟩,k⟩
def sp_lowered (K:PySem.W.Frag) (ns:List Int):Sp:=fun vs H Q _=>match vs with
  | [.ref L,.ref W,.str x,e]=>∃ gs us z,(Bk K H L gs∧(plr gs).length < 64∧gs.length ≤ 60∧(∀ g ∈ tld x gs,0 ≤ g.h∧g.h ≤ 2)∧∀ g ∈ tld x gs,g.b ∈ plr gs)∧SqL K H W (us.map V.int)∧(us.length = (plr gs).length∧∀ u ∈ us,0 ≤ u∧u ≤ 100000)∧EdAt 17 H e z∧∀ H',Same H H'→Q (.int (bs (fun v=>decide (topN (wOf (plr gs) (nq us)) z gs x v < 1)) 1 100001 - 1)) H'
  | _ => False
theorem sc_lowered:FnScope ["games","numbers","name","edge"] ["games","numbers","name","edge"] (defScope s_lowered):=⟨rfl,rfl,rfl,by decide +kernel,rfl,by decide +kernel,by decide +kernel⟩
theorem ok_lowered (d:DfnN K mg "lowered" s_lowered ["games","numbers","name","edge"]) (er:Errs K mg c_LadderError c_NoBook c_NoFit c_NoGame c_NoNumber c_NoPlayer c_NoRow c_NoStretch c_NoTable c_NoTree c_NoWorth)  (v_MOST:Cst mg "MOST" (.int (100000))) (c_first_number:Cal P w K mg base "first_number" ["games","numbers","name","edge","least_top","last"] 3 (sp_first_number K ns)):CalN P w K mg base "lowered" ["games","numbers","name","edge"] 4 (sp_lowered K ns):=by
  refine d.cal (k:=3) sc_lowered (fun vs H Q E h=>?_) (fun f cdv A outer s H vs Q E hr h=>?_)
  · match vs, h with
    | [.ref L, .ref W, .str x, e], _ => rfl
  · match vs, h with
    | [.ref L, .ref W, .str x, e], hq0 =>
      obtain ⟨gs, us, z, hB, hW, hu, he, k⟩ := hq0
      refine ⟨_,(@pss_one _ _ _ (@ps_ret _ _ _ _ (@pe_op _ _ _ _ _ _ _ _ o_sub (@e_call _ _ _ _ _ _ _ _ _ _ _ c_first_number hr (by decide) (by rfl) (@pa_cons _ _ _ _ _ (dv 0) (@pa_cons _ _ _ _ _ (dv 1) (@pa_cons _ _ _ _ _ (dv 2) (@pa_cons _ _ _ _ _ (dv 3) (@pa_cons _ _ _ _ _ pe_int (@pa_cons _ _ _ _ _ (@pe_op _ _ _ _ _ _ _ _ o_add (g_cst v_MOST (by rfl)) pe_int) pa_nil (by rfl)) (by rfl)) (by rfl)) (by rfl)) (by rfl)) (by rfl)) (by decide) (by rfl) (by rfl)) pe_int))),?_⟩
      exact ⟨gs,us,z,hB,hW,hu,he,⟨by decide,by decide⟩,k⟩
theorem rch_trans {gs:List Gm} {n x y:Str} (h:Rch gs n x) (h':Rch gs x y):Rch gs n y:=by
  induction h' with
  | here => exact h
  | step _ t ih => exact .step ih t
theorem mem_met {gs:List Gm} {n x:Str}:x ∈ (tld n gs).map (·.b) ↔ ∃ g ∈ gs,(g.a = n∧x = g.b) ∨ (g.a ≠ n∧g.b = n∧x = g.a):=by
  unfold tld
  rw [List.mem_map]
  constructor
  · rintro ⟨g', h, rfl⟩
    obtain ⟨g, h3, rfl⟩ := List.mem_map.mp h
    obtain ⟨h4, h5⟩ := List.mem_filter.mp h3
    refine ⟨g, h4, ?_⟩
    unfold toldG
    by_cases e : g.a = n
    · rw [if_pos e]
      exact .inl ⟨e, rfl⟩
    · rw [if_neg e]
      unfold isIn at h5
      have e' : g.b = n := by
        rcases Bool.or_eq_true _ _ |>.mp h5 with z | z
        · exact absurd (eq_of_beq z).symm e
        · exact (eq_of_beq z).symm
      exact .inr ⟨e, e', rfl⟩
  · rintro ⟨g, h, ⟨h1, rfl⟩ | ⟨h1, h2, rfl⟩⟩
    · refine ⟨g,List.mem_map.mpr ⟨g,List.mem_filter.mpr ⟨h,?_⟩,if_pos h1⟩,rfl⟩
      unfold isIn
      rw [h1]
      simp
    · refine ⟨trn g,List.mem_map.mpr ⟨g,List.mem_filter.mpr ⟨h,?_⟩,if_neg h1⟩,rfl⟩
      unfold isIn
      rw [h2]
      simp
theorem tk_met {nm:List Str} {gs:List Gm} (bl:BL nm gs) {x y:Str} (h:y ∈ tkr x gs):x ∈ (tld y gs).map (·.b):=by
  obtain ⟨g,hg,⟨h1,_,h3⟩ | ⟨h1,h2,_,h3⟩⟩:=mem_tkr.mp h
  · exact mem_met.mpr ⟨g,hg,.inr ⟨fun e=>bl.ne g hg (by rw [e,h3]),h3.symm,h1.symm⟩⟩
  · exact mem_met.mpr ⟨g, hg, .inl ⟨h3.symm, h2.symm⟩⟩
theorem tk_plr {gs:List Gm} {x y:Str} (h:y ∈ tkr x gs):y ∈ plr gs:=by
  obtain ⟨g, hg, ⟨_, _, e⟩ | ⟨_, _, _, e⟩⟩ := mem_tkr.mp h
  · exact mem_plr.mpr ⟨g, hg, .inr e⟩
  · exact mem_plr.mpr ⟨g, hg, .inl e⟩
theorem rch_sym {nm:List Str} {gs:List Gm} (bl:BL nm gs) (good:∀ m ∈ plr gs,¬ bad gs m) {n x:Str} (h:Rch gs n x):Rch gs x n:=by
  induction h with
  | here => exact .here
  | step _ t ih =>
    rename_i x y _
    refine rch_trans (Classical.byContradiction fun no=>good y (tk_plr t) ⟨x,tk_met bl t,no⟩) ih
def AllR (gs:List Gm):Prop:=∀ x ∈ plr gs,∀ y ∈ plr gs,Rch gs x y
theorem told_b {gs:List Gm} {x:Str} {g:Gm} (h:g ∈ tld x gs):∃ y ∈ gs,g = y ∨ g = trn y:=by
  unfold tld at h
  obtain ⟨y, hy, rfl⟩ := List.mem_map.mp h
  refine ⟨y, (List.mem_filter.mp hy).1, ?_⟩
  unfold toldG
  split
  · exact .inl rfl
  · exact .inr rfl
theorem told_h {nm:List Str} {gs:List Gm} (bl:BL nm gs) (x:Str):∀ g ∈ tld x gs,0 ≤ g.h∧g.h ≤ 2:=fun g hg=>by
  obtain ⟨y, hy, rfl | rfl⟩ := told_b hg
  · exact bl.h0 _ hy
  · have := bl.h0 _ hy
    show 0 ≤ 2 - y.h ∧ 2 - y.h ≤ 2
    omega
theorem told_p {gs:List Gm} (x:Str):∀ g ∈ tld x gs,g.b ∈ plr gs:=fun g hg=>by
  obtain ⟨y, hy, rfl | rfl⟩ := told_b hg
  · exact mem_plr.mpr ⟨_, hy, .inr rfl⟩
  · exact mem_plr.mpr ⟨_, hy, .inl rfl⟩
theorem no_bad {gs:List Gm} (h:AllR gs) {m:Str} (hm:m ∈ plr gs):¬ bad gs m:=by
  rintro ⟨x, hx, hr⟩
  obtain ⟨g, hg, rfl⟩ := List.mem_map.mp hx
  exact hr (h m hm _ (told_p m g hg))
theorem jn_one {gs:List Gm} (h:AllR gs):∀ i,0 < i→i ≤ (plr gs).length→∃ n,n ∈ plr gs∧jnI gs i = [abv gs n]
  | 0, h0, _ => absurd h0 (by decide)
  | 1, _, hi => by
    have e:(plr gs)[0]? = some (plr gs)[0]:=List.getElem?_eq_getElem hi
    refine ⟨(plr gs)[0], List.getElem_mem hi, ?_⟩
    rw [jnI_succ e]
    rfl
  | i + 2, _, hi => by
    obtain ⟨n,hn,e⟩:=jn_one h (i + 1) (by omega) (by omega)
    have e2:(plr gs)[i + 1]? = some (plr gs)[i + 1]:=List.getElem?_eq_getElem (by omega)
    refine ⟨n, hn, ?_⟩
    rw [jnI_succ e2, e]
    unfold jstep
    have:([abv gs n].any fun p=>decide ((plr gs)[i + 1] ∈ p)) = true:=by
      rw [List.any_cons]
      have:decide ((plr gs)[i + 1] ∈ abv gs n) = true:=decide_eq_true (mem_abv.mpr (h n hn _ (List.getElem_mem _)))
      rw [this]
      rfl
    rw [this]
    rfl
def Fit (gs:List Gm):Prop:=(∀ m ∈ plr gs,¬ bad gs m)∧∃ p,jnI gs (plr gs).length = [p]
inductive VD (gs : List Gm) : PyData → Prop where
  | none (i:Nat) (n:Str):(plr gs)[i]? = some n→bad gs n→(∀ j m,j < i→(plr gs)[j]? = some m→¬ bad gs m)→VD gs (.tuple [.str (Str.ofString "none"),.list ((abv gs n).map PyData.str)])
  | loose:(∀ m ∈ plr gs,¬ bad gs m)→(jnI gs (plr gs).length).length ≠ 1→VD gs (.tuple [.str (Str.ofString "loose"),.list ((jnI gs (plr gs).length).map fun p=>.list (p.map PyData.str))])
theorem VD.uniq {gs:List Gm} {d d':PyData} (h:VD gs d) (h':VD gs d'):d = d':=by
  cases h with
  | none i n h1 h2 h3 =>
    cases h' with
    | none j m k1 k2 k3 =>
      have e : i = j := by
        rcases Nat.lt_trichotomy i j with z | z | z
        · exact absurd h2 (k3 i n z h1)
        · exact z
        · exact absurd k2 (h3 j m z k1)
      subst e
      rw [h1] at k1
      cases k1
      rfl
    | loose k1 k2=>exact absurd h2 (k1 _ (List.mem_of_getElem? h1))
  | loose h1 h2 =>
    cases h' with
    | none j m k1 k2 k3=>exact absurd k2 (h1 _ (List.mem_of_getElem? k1))
    | loose k1 k2 => rfl
theorem VD.nofit {gs:List Gm} {d:PyData} (h:VD gs d):¬ Fit gs:=fun f=>by
  cases h with
  | none i n h1 h2 h3=>exact f.1 _ (List.mem_of_getElem? h1) h2
  | loose h1 h2 =>
    obtain ⟨p, e⟩ := f.2
    rw [e] at h2
    exact h2 rfl
theorem rql_strs {H:Hp}:∀ l:List Str,RqL H (l.map V.str) (l.map PyData.str)
  | [] => .nil
  | _ :: l => .cons (.str _) (rql_strs l)
theorem rql_parts {H0 H:Hp} {D:Addr}:∀ {vs:List V} {ps:List (List Str)},All2 (Prt H0 H D) vs ps→RqL H vs (ps.map fun p=>.list (p.map PyData.str))
  | _, _, .nil => .nil
  | _, _, .cons ⟨_, e, _, _, h⟩ r => by
    subst e
    exact .cons (.lst h (rql_strs _)) (rql_parts r)
theorem cp_strs {n:Nat} {l:List Str} (h:l.length ≤ 1000):Cp (n + 2) (.list (l.map PyData.str)):=by
  refine ⟨by rw [List.length_map]; exact h, fun d hd => ?_⟩
  obtain ⟨x, _, rfl⟩ := List.mem_map.mp hd
  trivial
theorem abv_len (gs:List Gm) (n:Str):(abv gs n).length ≤ (plr gs).length + 1:=by
  have z:=nd_len (l:=abv gs n) (m:=n :: plr gs) (inc_nodup (abv_inc gs n)) fun x hx=>by
    rcases rch_plr (mem_abv.mp hx) with e | e
    · rw [e]
      exact List.mem_cons_self ..
    · exact List.mem_cons_of_mem _ e
  simpa using z
theorem jn_mem {gs:List Gm}:∀ i,∀ p ∈ jnI gs i,∃ n,p = abv gs n
  | 0, p, h => by simp [jnI] at h
  | i + 1, p, h => by
    cases e : (plr gs)[i]? with
    | none =>
      have z : jnI gs (i + 1) = jnI gs i := by
        unfold jnI
        rw [List.take_add_one, e]
        exact congrArg (fun l=>List.foldl (jstep gs) [] l) (List.append_nil _)
      rw [z] at h
      exact jn_mem i p h
    | some n =>
      rw [jnI_succ e] at h
      unfold jstep at h
      split at h
      · exact jn_mem i p h
      · rcases List.mem_append.mp h with h | h
        · exact jn_mem i p h
        · rw [List.mem_singleton] at h
          exact ⟨n, h⟩
theorem vd_data {gs:List Gm} {H H':Hp} {T:Addr} (l60:(plr gs).length ≤ 60) (h:Vd gs H H' T):(Fit gs∧∃ F,H' T = some (.tup [.str (Str.ofString "one"),.ref F])) ∨ ∃ d w F,VD gs d∧Rq H' (.ref T) d∧Cp 4 d∧H' T = some (.tup [.str w,.ref F])∧w ≠ Str.ofString "one":=by
  cases h with
  | none i n F h1 h2 h3 h4 h5 h6 =>
    refine .inr ⟨_,_,F,.none i n h1 h2 h3,.tup h6 (.cons (.str _) (.cons (.lst h5 (rql_strs _)) .nil)),⟨by show 2 ≤ 1000; decide,fun d hd=>?_⟩,h6,by decide⟩
    rcases List.mem_cons.mp hd with rfl | hd
    · trivial
    · rw [List.mem_singleton] at hd
      subst hd
      exact cp_strs (by have := abv_len gs n; omega)
  | one p F h1 h2 h3 h4 h5=>exact .inl ⟨⟨h1,p,h2⟩,F,h5⟩
  | loose D vs h1 h2 h3 h4 h5 h6 =>
    refine .inr ⟨_,_,D,.loose h1 h2,.tup h6 (.cons (.str _) (.cons (.lst h4 (rql_parts h5)) .nil)),⟨by show 2 ≤ 1000; decide,fun d hd=>?_⟩,h6,by decide⟩
    rcases List.mem_cons.mp hd with rfl | hd
    · trivial
    · rw [List.mem_singleton] at hd
      subst hd
      have := jnI_len gs (plr gs).length
      refine ⟨by rw [List.length_map]; omega,fun d hd=>?_⟩
      obtain ⟨p, hp, rfl⟩ := List.mem_map.mp hd
      obtain ⟨n, rfl⟩ := jn_mem _ _ hp
      exact cp_strs (by have := abv_len gs n; omega)
theorem jn_cov {gs:List Gm}:∀ i,i ≤ (plr gs).length→∀ x ∈ (plr gs).take i,∃ p ∈ jnI gs i,x ∈ p
  | 0, _, x, h => by simp at h
  | i + 1, hi, x, h => by
    have e:(plr gs)[i]? = some (plr gs)[i]:=List.getElem?_eq_getElem hi
    rw [List.take_add_one, e] at h
    rw [jnI_succ e]
    unfold jstep
    rcases List.mem_append.mp h with h | h
    · obtain ⟨p, hp, hx⟩ := jn_cov i (by omega) x h
      split
      · exact ⟨p, hp, hx⟩
      · exact ⟨p, List.mem_append_left _ hp, hx⟩
    · have h : x = (plr gs)[i] := by simpa using h
      subst h
      split
      · rename_i q
        rw [List.any_eq_true] at q
        obtain ⟨p, hp, hx⟩ := q
        exact ⟨p, hp, of_decide_eq_true hx⟩
      · exact ⟨_,List.mem_append_right _ (List.mem_singleton.mpr rfl),mem_abv.mpr .here⟩
theorem fit_all {nm:List Str} {gs:List Gm} (bl:BL nm gs) (f:Fit gs):AllR gs∧plr gs ≠ []:=by
  obtain ⟨good, p, e⟩ := f
  obtain ⟨n,rfl⟩:=jn_mem (gs:=gs) (plr gs).length p (by rw [e]; exact List.mem_singleton.mpr rfl)
  have cov : ∀ x ∈ plr gs, Rch gs n x := fun x hx => by
    obtain ⟨q,hq,hx⟩:=jn_cov (gs:=gs) (plr gs).length (Nat.le_refl _) x (by rw [List.take_length]; exact hx)
    rw [e, List.mem_singleton] at hq
    subst hq
    exact mem_abv.mp hx
  refine ⟨fun x hx y hy=>rch_trans (rch_sym bl good (cov x hx)) (cov y hy),fun z=>?_⟩
  rw [z] at e
  cases e
theorem fit_of {gs:List Gm} (h:AllR gs) (ne:plr gs ≠ []):Fit gs:=by
  refine ⟨fun m hm => no_bad h hm, ?_⟩
  obtain ⟨n,hn,e⟩:=jn_one h (plr gs).length (List.length_pos_iff.mpr ne) (Nat.le_refl _)
  exact ⟨_, e⟩
structure Rf (K:PySem.W.Frag) (gs:List Gm) (an:Str) (H:Hp) (E:XK):Prop where
  np:AllR gs→plr gs ≠ []→an ∉ plr gs→∀ H',Same H H'→ExN K "NoPlayer" E H'
  nf:∀ d,VD gs d→∀ C dx v H',PySem.W.nsIn K mainGlobals "NoFit" = some (some (.ref C))→Same H H'→H' dx = some (.xd [(Str.ofString "verdict",v)])→Rq H' v d→E (.ref C) (some dx) H'
theorem Rf.up {K:PySem.W.Frag} {gs:List Gm} {an:Str} {H H1:Hp} {E:XK} (r:Rf K gs an H E) (s:Same H H1):Rf K gs an H1 E :=
  ⟨fun a b c H' s'=>r.np a b c H' (s.trans s'),fun d h C dx v H' h1 s' h2 h3=>r.nf d h C dx v H' h1 (s.trans s') h2 h3⟩
def sp_check_fit (K:PySem.W.Frag) (ns:List Int):Sp:=fun vs H Q E=>match vs with
  | [.ref L,.str an]=>∃ (gs:List Gm) (nm:List Str),(Bk K H L gs∧BL nm gs∧nm.length ≤ 60∧∀ x ∈ nm,PyData.strOk x = true)∧(AllR gs→an ∈ plr gs→∀ H',Same H H'→Q .non H')∧Rf K gs an H E
  | _ => False
theorem sc_check_fit:FnScope ["games","anchor","found"] ["games","anchor"] (defScope s_check_fit):=⟨rfl,rfl,rfl,by decide +kernel,rfl,by decide +kernel,by decide +kernel⟩
theorem ok_check_fit (d:Dfn K mg "check_fit" s_check_fit ["games","anchor"]) (er:Errs K mg c_LadderError c_NoBook c_NoFit c_NoGame c_NoNumber c_NoPlayer c_NoRow c_NoStretch c_NoTable c_NoTree c_NoWorth)   (c_check_player:Cal P w K mg base "check_player" ["games","name"] 2 (sp_check_player K ns)) (c_NoFit___init__:CalM P w K mg base [c_NoFit] [] "__init__" ["self","verdict"] 6 (sp_NoFit___init__ K ns)) (c_verdict:Cal P w K mg base "verdict" ["games"] 7 (sp_verdict K ns)):Cal P w K mg base "check_fit" ["games","anchor"] 8 (sp_check_fit K ns):=by
  refine d.calX (k:=7) sc_check_fit (fun vs H Q E h=>?_) (fun f cdv A outer s H vs Q E hr h=>?_)
  · match vs, h with
    | [.ref L, .str an], _ => rfl
  · match vs, h with
    | [.ref L, .str an], hq0 =>
      obtain ⟨gs, nm, ⟨hB, bl, l60, sok⟩, k, rf⟩ := hq0
      refine ⟨_,(@pss_cons _ _ _ _ _ (@ps_set _ _ (2) _ _ _ _ sc_check_fit.nd rfl (by first | exact Or.inl rfl | exact Or.inr rfl) (@e_call _ _ _ _ _ _ _ _ _ _ _ c_verdict hr (by decide) (by rfl) (@pa_cons _ _ _ _ _ (dv 0) pa_nil (by rfl)) (by decide) (by rfl) (by rfl)) (by rfl) (by first | exact .inl rfl | exact .inr rfl | assumption)) (@pss_cons _ _ _ _ _ (@s_if _ _ _ _ _ _ _ _ (@t_cmp _ _ _ _ _ _ _ _ o_ne (@pe_ix _ _ _ _ _ _ _ i_tup (dv 2) pe_int (fun _ _=>rfl)) pe_str (@nomark _ _ (by decide) (by decide))) (@pss_one _ _ _ (@ps_raiseE _ _ _ _ _ _ _ _ _ _ _ _ _ _ _ _ _ _ (@e_makeX _ _ _ _ _ _ _ _ _ _ _ _ _ _ c_NoFit___init__ (List.Mem.head _) er.ei_NoFit hr (by decide) (by rfl) er.b_NoFit (@pa_cons _ _ _ _ _ (dv 2) pa_nil (by rfl)) ⟨rfl,rfl,rfl⟩ (by decide) (by decide) (by rfl) (by rfl)))) pss_nil) (@pss_one _ _ _ (@ps_expr _ _ _ _ (@e_callX _ _ _ _ _ _ _ _ _ _ _ _ _ _ _ _ _ _ _ _ _ _ _ _ _ c_check_player hr (by decide) (by rfl) (@pa_cons _ _ _ _ _ (dv 0) (@pa_cons _ _ _ _ _ (dv 1) pa_nil (by rfl)) (by rfl)) (by decide) (by rfl) (by rfl)) (by rfl))))),?_⟩
      have pl60:(plr gs).length ≤ 60:=Nat.le_trans (plr_len bl.mem) l60
      refine ⟨gs,nm,⟨hB,bl.mem,l60,sok⟩,fun T H1 s1 vd=>?_⟩
      rcases vd_data pl60 vd with ⟨f,F,e⟩ | ⟨dt,w,F,hv,hR,hC,e,hw⟩
      · refine ⟨_,e,⟨fun h=>absurd h (by decide),fun _=>?_⟩⟩
        obtain ⟨al, ne⟩ := fit_all bl f
        exact ⟨gs,⟨hB.up s1,by omega⟩,fun hm H2 s2=>k al hm H2 (s1.trans s2),fun hm H2 s2=>rf.np al ne hm H2 (s1.trans s2)⟩
      · refine ⟨_,e,⟨fun _=>?_,fun h=>absurd (by simpa using h) hw⟩⟩
        refine fun x nx fx=>⟨_,dt,⟨er.y_NoFit,upd_same,hR.up (same_upd nx),hC⟩,fun dx v' H2 s2 n2 ne r2 e2 ex=>⟨rfl,x,_,some dx,rfl,ex,er.x_NoFit,fx,?_⟩⟩
        refine rf.nf dt hv _ dx v' _ er.y_NoFit (fun b o q=>?_) (by rw [del_ne ne]; exact e2) r2
        have q1 := s1 _ _ q
        have hb : b ≠ x := ne_of_none q1 nx
        rw [del_ne hb]
        refine s2 _ _ ?_
        rw [del_ne hb, upd_ne hb]
        exact q1
def fstN (gs:List Gm) (an:Str) (sc ot:Int):List Int:=(plr gs).map fun x=>if x = an then sc else ot
theorem all2_ints {f:Str→Int}:∀ {l:List Str} {ys:List V},All2 (fun x y=>y = V.int (f x)) l ys→ys = (l.map f).map V.int
  | _, _, .nil => rfl
  | _, _, .cons h t => by rw [h, all2_ints t]; rfl
theorem all2_strv:∀ (l:List Str),All2 (fun v m=>v = V.str m) (l.map V.str) l
  | [] => .nil
  | _ :: l => .cons rfl (all2_strv l)
def sp_first_numbers (K:PySem.W.Frag) (ns:List Int):Sp:=fun vs H Q _=>match vs with
  | [.ref L,.str an,.int sc,.int ot]=>∃ gs,(Bk K H L gs∧(plr gs).length < 64)∧∀ D H',Same H H'→H D = none→H' D = some (.lst ((fstN gs an sc ot).map V.int))→Q (.ref D) H'
  | _ => False
theorem sc_first_numbers:FnScope ["games","anchor","scale","others"] ["games","anchor","scale","others"] (defScope s_first_numbers):=⟨rfl,rfl,rfl,by decide +kernel,rfl,by decide +kernel,by decide +kernel⟩
theorem ok_first_numbers (d:Dfn K mg "first_numbers" s_first_numbers ["games","anchor","scale","others"]) (er:Errs K mg c_LadderError c_NoBook c_NoFit c_NoGame c_NoNumber c_NoPlayer c_NoRow c_NoStretch c_NoTable c_NoTree c_NoWorth)   (c_players:Cal P w K mg base "players" ["games"] 1 (sp_players K ns)):Cal P w K mg base "first_numbers" ["games","anchor","scale","others"] 2 (sp_first_numbers K ns):=by
  refine d.cal (k:=1) sc_first_numbers (fun vs H Q E h=>?_) (fun f cdv A outer s H vs Q E hr h=>?_)
  · match vs, h with
    | [.ref L, .str an, .int sc, .int ot], _ => rfl
  · match vs, h with
    | [.ref L, .str an, .int sc, .int ot], hq0 =>
      obtain ⟨gs, hB, k⟩ := hq0
      refine ⟨_,(@pss_one _ _ _ (@ps_ret _ _ _ _ (@e_compN _ _ _ _ _ _ _ _ _ _ ["name"] ["scale","others","anchor"] [2,3,1] rfl (@pi_list _ _ _ _ (@e_call _ _ _ _ _ _ _ _ _ _ _ c_players hr (by decide) (by rfl) (@pa_cons _ _ _ _ _ (dv 0) pa_nil (by rfl)) (by decide) (by rfl) (by rfl))) (fun C s H fp=>(@pg_name _ _ (0) _ (show List.Nodup [("name":Str),("scale":Str),("others":Str),("anchor":Str)] by decide +kernel) rfl (by first | exact Or.inl rfl | exact Or.inr rfl) (by first | exact .inl rfl | exact .inr rfl | assumption))) (fun C s H fp=>(@e_if _ _ _ _ _ _ _ _ (@t_cmp _ _ _ _ _ _ _ _ o_eq (dv 0) (dv 3) (@nomark _ _ (by decide) (by decide))) (dv 1) (dv 2))) rfl rfl (by decide +kernel) (by decide +kernel) (by rfl) ⟨rfl,⟨rfl,⟨rfl,True.intro⟩⟩⟩ ⟨⟨rfl,rfl,rfl,rfl⟩,⟨⟨rfl,rfl,rfl,rfl⟩,⟨⟨rfl,rfl,rfl,rfl⟩,True.intro⟩⟩⟩ (by intro _; rfl)))),?_⟩
      have h64 := hB.2
      refine ⟨gs, hB, fun P H1 s1 n1 e1 => ?_⟩
      refine ⟨P,rfl,⟨_,SqL.of e1⟩,comp_abs (fun _ v m=>v = V.str m) (fun _ _ _ _ _ h=>h) (fun _ x y=>y = V.int (if x = an then sc else ot)) (fun _ _ _ _ _ h=>h) (by rw [List.length_map]; omega) (SqL.of e1) (all2_strv _) ?_ ?_⟩
      · intro v x H2 hM _ s2 P hP
        subst hM
        refine ⟨rfl, ⟨fun h => ?_, fun h => ?_⟩⟩
        · exact hP _ _ (Same.refl _) (by rw [if_pos (of_decide_eq_true h)])
        · exact hP _ _ (Same.refl _) (by rw [if_neg (of_decide_eq_false h)])
      intro D H2 ys s2 n2 e2 a2
      rw [all2_ints a2] at e2
      exact k D H2 (s1.trans s2) (none_back s1 n2) e2
def mvd (lo:Bool) (gs:List Gm) (z:Q2) (us:List Int) (x:Str):Int:=if lo = true then bs (fun v=>decide (topN (wOf (plr gs) (nq us)) z gs x v < 1)) 1 100001 - 1 else bs (fun v=>decide (topN (wOf (plr gs) (nq us)) z gs x v < 0)) 1 100000
def stp (lo:Bool) (gs:List Gm) (z:Q2) (an:Str) (us:List Int) (i:Nat):List Int:=match (plr gs)[i]? with
  | some x=>if x = an then us else us.set i (mvd lo gs z us x)
  | none => us
def rndI (lo:Bool) (gs:List Gm) (z:Q2) (an:Str) (us:List Int) (i:Nat):List Int:=(List.range i).foldl (stp lo gs z an) us
theorem rndI_succ {lo:Bool} {gs:List Gm} {z:Q2} {an:Str} {us:List Int} {i:Nat}:rndI lo gs z an us (i + 1) = stp lo gs z an (rndI lo gs z an us i) i:=by
  unfold rndI
  rw [List.range_succ, List.foldl_append]
  rfl
def rnds (lo:Bool) (gs:List Gm) (z:Q2) (an:Str) (us:List Int):Nat→List Int
  | 0 => us
  | n + 1=>rndI lo gs z an (rnds lo gs z an us n) (plr gs).length
def lst (lo : Bool) : Int := if lo = true then 0 else 1
theorem mvd_in (lo:Bool) (gs:List Gm) (z:Q2) (us:List Int) (x:Str):lst lo ≤ mvd lo gs z us x∧mvd lo gs z us x ≤ 100000:=by
  unfold lst mvd
  cases lo with
  | true =>
    obtain ⟨h1,h2,_⟩:=bs_prop (f:=fun v=>decide (topN (wOf (plr gs) (nq us)) z gs x v < 1)) 100001 (low:=1) (high:=100001) (by decide) (by decide)
    rw [if_pos rfl, if_pos rfl]
    omega
  | false =>
    obtain ⟨h1,h2,_⟩:=bs_prop (f:=fun v=>decide (topN (wOf (plr gs) (nq us)) z gs x v < 0)) 100000 (low:=1) (high:=100000) (by decide) (by decide)
    rw [if_neg (by decide), if_neg (by decide)]
    exact ⟨h1, h2⟩
def Num (n:Nat) (lo:Int) (us:List Int):Prop:=us.length = n∧∀ u ∈ us,lo ≤ u∧u ≤ 100000
theorem stp_num {gs:List Gm} {z:Q2} {an:Str} {us:List Int} {i n:Nat} {lo:Bool} {b:Int} (h1:b ≤ lst lo) (h:Num n b us):Num n b (stp lo gs z an us i):=by
  unfold stp
  split
  · split
    · exact h
    · refine ⟨by rw [List.length_set]; exact h.1,fun u hu=>?_⟩
      rcases List.mem_or_eq_of_mem_set hu with e | e
      · exact h.2 u e
      · subst e
        have := mvd_in lo gs z us ‹Str›
        omega
  · exact h
theorem rndI_num {gs:List Gm} {z:Q2} {an:Str} {us:List Int} {n:Nat} {lo:Bool} {b:Int} (h1:b ≤ lst lo) (h:Num n b us):∀ i,Num n b (rndI lo gs z an us i)
  | 0 => h
  | i + 1 => by
    rw [rndI_succ]
    exact stp_num h1 (rndI_num h1 h i)
theorem rnds_num {gs:List Gm} {z:Q2} {an:Str} {us:List Int} {n:Nat} {lo:Bool} {b:Int} (h1:b ≤ lst lo) (h:Num n b us):∀ i,Num n b (rnds lo gs z an us i)
  | 0 => h
  | i + 1 => rndI_num h1 (rnds_num h1 h i) _
def mvN (lo:Bool):Str:=if lo = true then Str.ofString "lowered" else Str.ofString "raised"
theorem lst_nn (lo : Bool) : 0 ≤ lst lo := by
  cases lo <;> decide
def sp_after_rounds (K:PySem.W.Frag) (ns:List Int):Sp:=fun vs H Q _=>match vs with
  | [.ref L,.str an,.ref F,.int n,e,.ref f]=>∃ (lo:Bool) (gs:List Gm) (us:List Int) (z:Q2),(Bk K H L gs∧(plr gs).length < 64∧gs.length ≤ 60∧(∀ x,∀ g ∈ tld x gs,0 ≤ g.h∧g.h ≤ 2))∧(SqL K H F (us.map V.int)∧Num (plr gs).length 0 us)∧EdAt 17 H e z∧(0 ≤ n∧n ≤ 100)∧PySem.W.nsIn K mainGlobals (mvN lo) = some (some (.ref f))∧∀ D H',Same H H'→H D = none→H' D = some (.lst ((rnds lo gs z an us n.toNat).map V.int))→Q (.ref D) H'
  | _ => False
theorem sc_after_rounds:FnScope ["games","anchor","first","rounds","edge","moved","numbers","turn","at","name"] ["games","anchor","first","rounds","edge","moved"] (defScope s_after_rounds):=⟨rfl,rfl,rfl,by decide +kernel,rfl,by decide +kernel,by decide +kernel⟩
theorem ok_after_rounds (d:Dfn K mg "after_rounds" s_after_rounds ["games","anchor","first","rounds","edge","moved"]) (er:Errs K mg c_LadderError c_NoBook c_NoFit c_NoGame c_NoNumber c_NoPlayer c_NoRow c_NoStretch c_NoTable c_NoTree c_NoWorth) (n_range:mg "range" = none) (n_enumerate:mg "enumerate" = none) (n_list:mg "list" = none) (v_raised:FnV K mg "raised") (v_lowered:FnV K mg "lowered") (c_players:Cal P w K mg base "players" ["games"] 1 (sp_players K ns)) (c_raised:CalN P w K mg base "raised" ["games","numbers","name","edge"] 4 (sp_raised K ns)) (c_lowered:CalN P w K mg base "lowered" ["games","numbers","name","edge"] 4 (sp_lowered K ns)):Cal P w K mg base "after_rounds" ["games","anchor","first","rounds","edge","moved"] 5 (sp_after_rounds K ns):=by
  refine d.cal (k:=4) sc_after_rounds (fun vs H Q E h=>?_) (fun f cdv A outer s H vs Q E hr h=>?_)
  · match vs, h with
    | [.ref L, .str an, .ref F, .int n, e, .ref f], _ => rfl
  · match vs, h with
    | [.ref L, .str an, .ref F, .int n, e, .ref f], hq0 =>
      obtain ⟨lo,gs,us,z,⟨hB,h64,g60,th⟩,⟨hF,hu⟩,he,⟨n0,n1⟩,hf,k⟩:=hq0
      refine ⟨_,(@pss_cons _ _ _ _ _ (@ps_set _ _ (6) _ _ _ _ sc_after_rounds.nd rfl (by first | exact Or.inl rfl | exact Or.inr rfl) (@pe_callTy _ _ _ _ _ _ _ _ _ c_listN (by rfl) n_list (by decide +kernel) (@pa_cons _ _ _ _ _ (dv 2) pa_nil (by rfl)) (by decide) (by decide) (by rfl) (by rfl)) (by rfl) (by first | exact .inl rfl | exact .inr rfl | assumption)) (@pss_cons _ _ _ _ _ (@ps_for _ _ _ _ _ _ _ _ PassesOwn.never rfl (@pi_range1 _ _ _ _ _ _ (by rfl) n_range (@pa_cons _ _ _ _ _ (dv 3) pa_nil (by rfl)) (by rfl)) (@pg_name _ _ (7) _ sc_after_rounds.nd rfl (by first | exact Or.inl rfl | exact Or.inr rfl) (by first | exact .inl rfl | exact .inr rfl | assumption)) (@pss_one _ _ _ (@ps_for _ _ _ _ _ _ _ _ PassesOwn.never rfl (@pi_enum _ _ _ _ _ _ _ _ (by rfl) n_enumerate (@pa_cons _ _ _ _ _ (@e_call _ _ _ _ _ _ _ _ _ _ _ c_players hr (by decide) (by rfl) (@pa_cons _ _ _ _ _ (dv 0) pa_nil (by rfl)) (by decide) (by rfl) (by rfl)) pa_nil (by rfl)) (by rfl)) (@pg_tup _ _ _ _ _ _ rfl (@pgs_cons _ _ _ _ _ (@pg_name _ _ (8) _ sc_after_rounds.nd rfl (by first | exact Or.inl rfl | exact Or.inr rfl) (by first | exact .inl rfl | exact .inr rfl | assumption)) (@pgs_cons _ _ _ _ _ (@pg_name _ _ (9) _ sc_after_rounds.nd rfl (by first | exact Or.inl rfl | exact Or.inr rfl) (by first | exact .inl rfl | exact .inr rfl | assumption)) pgs_nil (by rfl)) (by rfl)) (by rfl) (by rfl)) (@pss_one _ _ _ (@s_if _ _ _ _ _ _ _ _ (@t_cmp _ _ _ _ _ _ _ _ o_ne (dv 9) (dv 1) (@nomark _ _ (by decide) (by decide))) (@pss_one _ _ _ (@ps_asg _ _ _ _ _ _ (@e_callV2 _ _ _ _ _ _ _ _ _ _ _ _ _ _ _ _ _ c_raised.cal c_lowered.cal v_raised v_lowered hr (by decide) (by decide) (dv 5) (@pa_cons _ _ _ _ _ (dv 0) (@pa_cons _ _ _ _ _ (dv 6) (@pa_cons _ _ _ _ _ (dv 9) (@pa_cons _ _ _ _ _ (dv 4) pa_nil (by rfl)) (by rfl)) (by rfl)) (by rfl)) (by rfl) (by rfl)) (@pg_sub _ _ _ _ _ _ _ (dv 6) (dv 8) set_list (by intro _; rfl)) (by rfl) (by rfl) (by rfl))) pss_nil)) (by intro _; rfl))) (by intro _; rfl)) (@pss_one _ _ _ (@ps_ret _ _ _ _ (dv 6))))),?_⟩
      refine ⟨_, .inl hF, fun D hD => ?_⟩
      have s1:Same H (upd H D (.lst (us.map V.int))):=same_upd hD
      have e1:upd H D (.lst (us.map V.int)) D = some (.lst (us.map V.int)):=upd_same
      generalize upd H D (.lst (us.map V.int)) = H1 at s1 e1
      refine ⟨_,rfl,by omega,by omega,for_range (lo:=0) (n:=n.toNat) (fun j σ Hx=>∃ (o7 o8 o9:Option V),σ = [some (.ref L),some (.str an),some (.ref F),some (.int n),some e,some (.ref f),some (.ref D),o7,o8,o9]∧Same H Hx∧Hx D = some (.lst ((rnds lo gs z an us j).map V.int))) ⟨_,_,_,rfl,s1,e1⟩ ?_ ?_⟩
      · rintro j σ Hx hj ⟨o7, o8, o9, rfl, sx, ex⟩
        have numj:=rnds_num (gs:=gs) (z:=z) (an:=an) (lo:=lo) (lst_nn lo) hu j
        generalize ew : rnds lo gs z an us j = ws at ex numj
        refine ⟨gs,⟨hB.up sx,h64⟩,fun P H2 s2 n2 e2=>?_⟩
        have ne : P ≠ D := fun c => by
          rw [c, ex] at n2
          cases n2
        have ex2 := s2 _ _ ex
        refine ⟨⟨_,SqL.of e2⟩,for_enum (K:=K) (a:=P) (xs:=(plr gs).map V.str) (fun i σ Hy=>∃ (o8 o9:Option V),σ = [some (.ref L),some (.str an),some (.ref F),some (.int n),some e,some (.ref f),some (.ref D),some (.int (0 + (j:Int))),o8,o9]∧Same H Hy∧Hy P = some (.lst ((plr gs).map V.str))∧Hy D = some (.lst ((rndI lo gs z an ws i).map V.int))) ⟨_,_,rfl,sx.trans s2,e2,ex2⟩ (fun i σ Hy ⟨_,_,_,_,e,_⟩=>SqL.of e) ?_ ?_⟩
        · rintro i v t σ Hy hv ht ⟨o8, o9, rfl, sy, eP, eD⟩
          rw [List.getElem?_map] at hv
          obtain ⟨x,hx,rfl⟩:∃ x,(plr gs)[i]? = some x∧V.str x = v:=by
            cases hh : (plr gs)[i]? with
            | none => rw [hh] at hv; cases hv
            | some x=>rw [hh] at hv; exact ⟨x,rfl,Option.some.inj hv⟩
          have st:Same Hy (upd Hy t (.tup [.int (i:Int),.str x])):=same_upd ht
          refine ⟨t,_,rfl,SqT.of upd_same,rfl,_,_,rfl,_,_,rfl,rfl,?_⟩
          generalize upd Hy t (.tup [.int (i:Int),.str x]) = Hz at st
          have eP := st _ _ eP
          have eD := st _ _ eD
          have sz := sy.trans st
          have numi:=rndI_num (gs:=gs) (z:=z) (an:=an) (lo:=lo) (lst_nn lo) numj i
          rw [rndI_succ]
          generalize rndI lo gs z an ws i = us' at eD numi
          refine ⟨fun h => ?_, fun h => ?_⟩
          · have hxa : ¬ x = an := by simpa using h
            have es:stp lo gs z an us' i = us'.set i (mvd lo gs z us' x):=by
              unfold stp
              rw [hx]
              exact if_neg hxa
            rw [es]
            have hi := (List.getElem?_eq_some_iff.mp hx).1
            have hix:ixN (us'.map V.int).length (i:Int) = some i:=by
              unfold ixN
              rw [List.length_map, numi.1]
              rw [if_pos (by omega)]
              simp
              omega
            have fin:∀ H5,Same Hz H5→∃ (o8 o9:Option V),[some (V.ref L),some (.str an),some (.ref F),some (.int n),some e,some (.ref f),some (.ref D),some (.int (0 + (j:Int))),some (.int (i:Int)),some (.str x)] = [some (V.ref L),some (.str an),some (.ref F),some (.int n),some e,some (.ref f),some (.ref D),some (.int (0 + (j:Int))),o8,o9]∧Same H (upd H5 D (.lst ((us'.map V.int).set i (.int (mvd lo gs z us' x)))))∧upd H5 D (.lst ((us'.map V.int).set i (.int (mvd lo gs z us' x)))) P = some (.lst ((plr gs).map V.str))∧upd H5 D (.lst ((us'.map V.int).set i (.int (mvd lo gs z us' x)))) D = some (.lst ((us'.set i (mvd lo gs z us' x)).map V.int)):=fun H5 s5=>⟨_,_,rfl,same_app' (sz.trans s5) hD,by rw [upd_ne ne]; exact s5 _ _ eP,by rw [upd_same,List.map_set]⟩
            have eDz := eD
            cases lo with
            | true=>exact .inr ⟨f,rfl,hf,gs,us',z,⟨hB.up sz,h64,g60,th x,told_p x⟩,SqL.of eDz,numi,he.up sz,fun H5 s5=>⟨D,_,_,_,rfl,rfl,s5 _ _ eDz,hix,fin H5 s5⟩⟩
            | false=>exact .inl ⟨f,rfl,hf,gs,us',z,⟨hB.up sz,h64,g60,th x,told_p x⟩,SqL.of eDz,numi,he.up sz,fun H5 s5=>⟨D,_,_,_,rfl,rfl,s5 _ _ eDz,hix,fin H5 s5⟩⟩
          · have hxa : x = an := by simpa using h
            have es : stp lo gs z an us' i = us' := by
              unfold stp
              rw [hx]
              exact if_pos hxa
            rw [es]
            exact ⟨_, _, rfl, sz, eP, eD⟩
        · rintro σ Hy ⟨o8, o9, rfl, sy, eP, eD⟩
          rw [List.length_map, ← ew] at eD
          exact ⟨_, _, _, rfl, sy, eD⟩
      rintro σ Hx ⟨o7, o8, o9, rfl, sx, ex⟩
      exact k D Hx sx hD ex
def topA (gs:List Gm) (z:Q2) (us:List Int) (x:Str):Int:=topN (wOf (plr gs) (nq us)) z gs x (wOf (plr gs) (nq us) x).1
theorem wOf_nq':∀ (names:List Str) (us:List Int) (y:Str),wOf names (nq us) y = ((wOf names (nq us) y).1,1)
  | [], _, _ => rfl
  | _ :: _, [], _ => rfl
  | n :: names, u :: us, y => by
    show (if n = y then ((u,1):Q2) else wOf names (nq us) y) = ((if n = y then ((u,1):Q2) else wOf names (nq us) y).1,1)
    split
    · rfl
    · exact wOf_nq' names us y
theorem num_in':∀ {names:List Str} {us:List Int} {y:Str},us.length = names.length→y ∈ names→(wOf names (nq us) y).1 ∈ us
  | [], _, _, _, h => by simp at h
  | _ :: _, [], _, h, _ => by simp at h
  | n :: names, u :: us, y, hl, h => by
    show (if n = y then ((u,1):Q2) else wOf names (nq us) y).1 ∈ u :: us
    split
    · exact List.mem_cons_self
    · rename_i ne
      exact List.mem_cons_of_mem _ (num_in' (by simpa using hl) ((List.mem_cons.mp h).resolve_left fun z=>ne z.symm))
theorem all2_ystrv:∀ {l:List Str} {ys:List V},All2 (fun m y=>y = V.str m) l ys→ys = l.map V.str
  | _, _, .nil => rfl
  | _, _, .cons h t => by rw [h, all2_ystrv t]; rfl
def ask (gs:List Gm) (an:Str) (us:List Int) (x:Str):Bool:=!decide (x = an) && !decide ((wOf (plr gs) (nq us) x).1 = 0)
def sp_tops_but (K:PySem.W.Frag) (ns:List Int):Sp:=fun vs H Q _=>match vs with
  | [.ref L,.str an,.ref W,e]=>∃ gs us z,(Bk K H L gs∧(plr gs).length < 64∧gs.length ≤ 60∧(∀ x,∀ g ∈ tld x gs,0 ≤ g.h∧g.h ≤ 2))∧(SqL K H W (us.map V.int)∧Num (plr gs).length 0 us)∧EdAt 17 H e z∧∀ D H',Same H H'→H' D = some (.lst ((((plr gs).filter (ask gs an us)).map (topA gs z us)).map V.int))→Q (.ref D) H'
  | _ => False
theorem sc_tops_but:FnScope ["games","anchor","numbers","edge","named","asked"] ["games","anchor","numbers","edge"] (defScope s_tops_but):=⟨rfl,rfl,rfl,by decide +kernel,rfl,by decide +kernel,by decide +kernel⟩
theorem ok_tops_but (d:Dfn K mg "tops_but" s_tops_but ["games","anchor","numbers","edge"]) (er:Errs K mg c_LadderError c_NoBook c_NoFit c_NoGame c_NoNumber c_NoPlayer c_NoRow c_NoStretch c_NoTable c_NoTree c_NoWorth)   (c_own_sum:Cal P w K mg base "own_sum" ["told","worth","named","edge"] 2 (sp_own_sum K ns)) (c_told_by:Cal P w K mg base "told_by" ["games","name"] 2 (sp_told_by K ns)) (c_named_numbers:Cal P w K mg base "named_numbers" ["games","numbers"] 2 (sp_named_numbers K ns)):Cal P w K mg base "tops_but" ["games","anchor","numbers","edge"] 3 (sp_tops_but K ns):=by
  refine d.cal (k:=2) sc_tops_but (fun vs H Q E h=>?_) (fun f cdv A outer s H vs Q E hr h=>?_)
  · match vs, h with
    | [.ref L, .str an, .ref W, e], _ => rfl
  · match vs, h with
    | [.ref L, .str an, .ref W, e], hq0 =>
      obtain ⟨gs,us,z,⟨hB,h64,g60,th⟩,⟨hW,hu⟩,he,k⟩:=hq0
      refine ⟨_,(@pss_cons _ _ _ _ _ (@ps_set _ _ (4) _ _ _ _ sc_tops_but.nd rfl (by first | exact Or.inl rfl | exact Or.inr rfl) (@e_call _ _ _ _ _ _ _ _ _ _ _ c_named_numbers hr (by decide) (by rfl) (@pa_cons _ _ _ _ _ (dv 0) (@pa_cons _ _ _ _ _ (dv 2) pa_nil (by rfl)) (by rfl)) (by decide) (by rfl) (by rfl)) (by rfl) (by first | exact .inl rfl | exact .inr rfl | assumption)) (@pss_cons _ _ _ _ _ (@ps_compIN _ _ _ _ _ _ _ _ _ (5) _ _ _ _ _ _ ["name"] ["anchor","named"] [1,4] rfl (@pi_keys _ _ _ _ (dv 4)) (fun C s H fp=>(@pg_name _ _ (0) _ (show List.Nodup [("name":Str),("anchor":Str),("named":Str)] by decide +kernel) rfl (by first | exact Or.inl rfl | exact Or.inr rfl) (by first | exact .inl rfl | exact .inr rfl | assumption))) (fun C s H fp=>(@L2.PW.pt _ _ _ (@w_and _ _ _ _ _ _ _ (@t_cmp _ _ _ _ _ _ _ _ o_ne (dv 0) (dv 1) (@nomark _ _ (by decide) (by decide))) (@pw_and1 _ _ _ _ (@t_cmp _ _ _ _ _ _ _ _ (show OpR _ _ (dNeD K) from (o_neD hr.units)) (@pe_dget _ _ _ _ _ _ (@u1 _ _ hr.units) (dv 2) (dv 0) (fun _ _=>rfl)) (@e_tup _ _ _ _ _ (@pa_cons _ _ _ _ _ pe_int (@pa_cons _ _ _ _ _ pe_int pa_nil (by rfl)) (by rfl))) (@nomark _ _ (by decide) (by decide))))))) (fun C s H fp=>(dv 0)) rfl rfl (by decide +kernel) (by decide +kernel) (by rfl) ⟨rfl,⟨rfl,True.intro⟩⟩ ⟨⟨rfl,rfl,rfl,rfl⟩,⟨⟨rfl,rfl,rfl,rfl⟩,True.intro⟩⟩ sc_tops_but.nd rfl rfl (by intro _; rfl) (by rfl)) (@pss_one _ _ _ (@ps_ret _ _ _ _ (@e_compN _ _ _ _ _ _ _ _ _ _ ["name"] ["named","edge","games"] [4,3,0] rfl (@pi_list _ _ _ _ (dv 5)) (fun C s H fp=>(@pg_name _ _ (0) _ (show List.Nodup [("name":Str),("named":Str),("edge":Str),("games":Str)] by decide +kernel) rfl (by first | exact Or.inl rfl | exact Or.inr rfl) (by first | exact .inl rfl | exact .inr rfl | assumption))) (fun C s H fp=>(@pe_ix _ _ _ _ _ _ _ i_tup (@e_call _ _ _ _ _ _ _ _ _ _ _ c_own_sum hr (by decide) (by rfl) (@pa_cons _ _ _ _ _ (@e_call _ _ _ _ _ _ _ _ _ _ _ c_told_by hr (by decide) (by rfl) (@pa_cons _ _ _ _ _ (dv 3) (@pa_cons _ _ _ _ _ (dv 0) pa_nil (by rfl)) (by rfl)) (by decide) (by rfl) (by rfl)) (@pa_cons _ _ _ _ _ (@pe_dget _ _ _ _ _ _ (@u1 _ _ hr.units) (dv 1) (dv 0) (fun _ _=>rfl)) (@pa_cons _ _ _ _ _ (dv 1) (@pa_cons _ _ _ _ _ (dv 2) pa_nil (by rfl)) (by rfl)) (by rfl)) (by rfl)) (by decide) (by rfl) (by rfl)) pe_int (fun _ _=>rfl))) rfl rfl (by decide +kernel) (by decide +kernel) (by rfl) ⟨rfl,⟨rfl,⟨rfl,True.intro⟩⟩⟩ ⟨⟨rfl,rfl,rfl,rfl⟩,⟨⟨rfl,rfl,rfl,rfl⟩,⟨⟨rfl,rfl,rfl,rfl⟩,True.intro⟩⟩⟩ (by intro _; rfl)))))),?_⟩
      have hu0:us.length = (plr gs).length∧∀ u ∈ us,0 ≤ u∧u ≤ 100000:=⟨hu.1,fun u h=>by have:=hu.2 u h; omega⟩
      refine ⟨gs,us,⟨hB,h64⟩,hW,hu0,fun D H1 s1 hD ⟨ws,eD,aD⟩=>?_⟩
      have lw : ws.length = (plr gs).length := by
        rw [aD.len]
        unfold nq
        rw [List.length_map]
        exact hu.1
      have hn:(plr gs).length = (nq us).length:=by unfold nq; rw [List.length_map]; exact hu.1.symm
      have hk:(((plr gs).map (Sum.inr:Str→Key)).zip ws).map (·.1) = (plr gs).map Sum.inr:=List.map_fst_zip (by rw [List.length_map]; omega)
      refine ⟨D, _, plr gs, rfl, eD, hk, fun o => ?_⟩
      have s2:Same H (upd H1 D (.frz o (.dK (((plr gs).map (Sum.inr:Str→Key)).zip ws)))):=same_app' s1 hD
      have kt:Kt H1 (upd H1 D (.frz o (.dK (((plr gs).map (Sum.inr:Str→Key)).zip ws)))):=fun p zs q=>by
        rw [upd_ne fun c => by rw [c, eD] at q; cases q]
        exact q
      have eF:upd H1 D (.frz o (.dK (((plr gs).map (Sum.inr:Str→Key)).zip ws))) D = some (.frz o (.dK (((plr gs).map (Sum.inr:Str→Key)).zip ws))):=upd_same
      generalize upd H1 D (.frz o (.dK (((plr gs).map (Sum.inr:Str→Key)).zip ws))) = H2 at s2 kt eF
      have aD:All2 (W0 17 H2) ws (nq us):=aD.imp fun v q r=>w0_up v q _ _ kt r
      have get:∀ {x:Str} {H':Hp},x ∈ plr gs→Same H2 H'→∃ p,DGet H' D (.str x) (some (.ref p))∧Fq 17 H' p (wOf (plr gs) (nq us) x).1 (wOf (plr gs) (nq us) x).2∧0 ≤ (wOf (plr gs) (nq us) x).1:=fun {x H'} hx s=>by
        obtain ⟨v,ev,p,rfl,f,zz⟩:=nw0_get (H:=H2) aD hn hx
        have rD:Rd H' D (.dK (((plr gs).map (Sum.inr:Str→Key)).zip ws)):=.inr ⟨o,s _ _ eF⟩
        exact ⟨p,ev ▸ dget_r (k:=Sum.inr x) rD,f.up s,(hu.2 _ (num_in' hu.1 hx)).1⟩
      refine comp_keysI (fun _ m y=>y = V.str m) (fun _ _ _ _ _ h=>h) (ask gs an us) (by omega) eF hk ?_ ?_
      · intro x H3 hx s3 P P' hP hP'
        obtain ⟨p, gx, fx, ge⟩ := get hx s3
        refine ⟨rfl, ⟨fun h => ?_, fun h => ?_⟩⟩
        · have hxa : ¬ x = an := by simpa using h
          have w1:(wOf (plr gs) (nq us) x).2 = 1:=by rw [wOf_nq' (plr gs) us x]
          refine ⟨D,_,rfl,gx,fun T H4 s4 e4=>⟨_,_,rpI2 (fx.up s4).at',rpI2 e4,rfl,rfl,⟨fun h2=>hP ?_ _ _ s4 rfl,fun h2=>hP' ?_ _ s4⟩⟩⟩
          · have:((PyData.tuple [.int (wOf (plr gs) (nq us) x).1,.int (wOf (plr gs) (nq us) x).2]).eqv (PyData.tuple [.int 0,.int 1])) = false:=by simpa using h2
            rw [w1] at this
            have ne:¬ (wOf (plr gs) (nq us) x).1 = 0:=fun c=>by
              rw [c] at this
              simp [PyData.eqv, PyData.eqvAll] at this
            simp [ask, hxa, ne]
          · have:((PyData.tuple [.int (wOf (plr gs) (nq us) x).1,.int (wOf (plr gs) (nq us) x).2]).eqv (PyData.tuple [.int 0,.int 1])) = true:=by simpa using h2
            simp [PyData.eqv, PyData.eqvAll] at this
            simp [ask, this.1]
        · have hxa : x = an := by simpa using h
          exact ⟨fun h=>nb h,fun _=>hP' (by simp [ask,hxa]) _ (Same.refl _)⟩
      intro A H3 ys s3 _ e3 a3
      have y3:ys = ((plr gs).filter (ask gs an us)).map V.str:=all2_ystrv a3
      rw [y3] at e3
      have lf:((plr gs).filter (ask gs an us)).length ≤ (plr gs).length:=List.length_filter_le _ _
      refine ⟨A,rfl,⟨_,SqL.of e3⟩,comp_abs (fun _ v m=>v = V.str m) (fun _ _ _ _ _ h=>h) (fun _ x y=>y = V.int (topA gs z us x)) (fun _ _ _ _ _ h=>h) (by rw [List.length_map]; omega) (SqL.of e3) (all2_strv _) ?_ ?_⟩
      · intro v x H4 hM hx s4 P hP
        subst hM
        have hp1 : 1 ≤ (wOf (plr gs) (nq us) x).1 := by
          have hx0 : x ∈ plr gs := (List.mem_filter.mp hx).1
          have hx1:ask gs an us x = true:=(List.mem_filter.mp hx).2
          unfold ask at hx1
          rw [Bool.and_eq_true] at hx1
          have h0 := (hu.2 _ (num_in' hu.1 hx0)).1
          have h1:¬ (wOf (plr gs) (nq us) x).1 = 0:=by simpa using hx1.2
          omega
        have hx : x ∈ plr gs := (List.mem_filter.mp hx).1
        refine ⟨rfl,gs,hB.up (s2.trans (s3.trans s4)),fun T H5 s5 _ bT=>?_⟩
        have s25 := s3.trans (s4.trans s5)
        obtain ⟨p, gx, fx, ge⟩ := get hx s25
        have lt60:(tld x gs).length ≤ 60:=Nat.le_trans (tld_len x gs) g60
        have n0:N0At 17 H5 D (plr gs) (nq us):=⟨ws,.inr ⟨o,s25 _ _ eF⟩,aD.imp fun v q r=>w0_up v q _ _ (kt_of s25) r⟩
        refine ⟨D,_,rfl,gx,17,tld x gs,plr gs,nq us,_,z,⟨bT,by omega,th x⟩,⟨by decide,by decide⟩,⟨fx,by omega⟩,⟨n0,hn,told_p x⟩,he.up (s2.trans s25),fun r H6 s6 e6 _ _=>⟨_,e6,hP _ _ (s5.trans s6) ?_⟩⟩
        unfold topA topN
        rw [← wOf_nq' (plr gs) us x]
      intro U H4 zs s4 _ e4 a4
      rw [all2_ints a4] at e4
      exact k U H4 (s2.trans (s3.trans s4)) e4
def BkF (K:PySem.W.Frag) (H:Hp) (L:Addr) (gs:List Gm) (nm:List Str):Prop:=Bk K H L gs∧BL nm gs∧nm.length ≤ 60∧(∀ x ∈ nm,PyData.strOk x = true)∧gs.length ≤ 60
def stU (gs:List Gm) (z:Q2) (an:Str) (us:List Int):Bool:=(((plr gs).filter (ask gs an us)).map fun x=>decide (0 ≤ topA gs z us x)).all id
def stD (gs:List Gm) (z:Q2) (an:Str) (us:List Int):Bool:=(((plr gs).filter (ask gs an us)).map fun x=>decide (topA gs z us x ≤ 0)).all id
theorem all2_blI {f:Int→Bool}:∀ {l:List Int} {ys:List V},All2 (fun (q:Int) (y:V)=>y = V.bl (f q)) l ys→ys = (l.map f).map V.bl
  | _, _, .nil => rfl
  | _, _, .cons h t => by rw [h, all2_blI t]; rfl
theorem fst_num {gs:List Gm} {an:Str} {sc ot:Int} (h1:1 ≤ sc∧sc ≤ 100000) (h2:1 ≤ ot∧ot ≤ 100000):Num (plr gs).length 0 (fstN gs an sc ot):=by
  refine ⟨List.length_map .., fun u hu => ?_⟩
  unfold fstN at hu
  obtain ⟨x, _, rfl⟩ := List.mem_map.mp hu
  split
  · omega
  · omega
theorem Num.mono {n:Nat} {lo lo':Int} {us:List Int} (h:Num n lo us) (l:lo' ≤ lo):Num n lo' us:=⟨h.1,fun u hu=>by have:=h.2 u hu; omega⟩
def sp_lowers (K:PySem.W.Frag) (ns:List Int):Sp:=fun vs H Q E=>match vs with
  | [.ref L,.str an,.int sc,.int n,e]=>∃ (gs:List Gm) (nm:List Str) (z:Q2),BkF K H L gs nm∧(1 ≤ sc∧sc ≤ 100000)∧(0 ≤ n∧n ≤ 100)∧EdAt 17 H e z∧Rf K gs an H E∧(AllR gs→an ∈ plr gs→∀ T U H',Same H H'→H U = none→H' T = some (.tup [.ref U,.bl (stD gs z an (rnds true gs z an (fstN gs an sc 100000) n.toNat))])→H' U = some (.lst ((rnds true gs z an (fstN gs an sc 100000) n.toNat).map V.int))→Q (.ref T) H')
  | _ => False
theorem sc_lowers:FnScope ["games","anchor","scale","rounds","edge","numbers"] ["games","anchor","scale","rounds","edge"] (defScope s_lowers):=⟨rfl,rfl,rfl,by decide +kernel,rfl,by decide +kernel,by decide +kernel⟩
theorem ok_lowers (d:DfnN K mg "lowers" s_lowers ["games","anchor","scale","rounds","edge"]) (er:Errs K mg c_LadderError c_NoBook c_NoFit c_NoGame c_NoNumber c_NoPlayer c_NoRow c_NoStretch c_NoTable c_NoTree c_NoWorth) (n_all:mg "all" = none) (v_lowered:FnV K mg "lowered") (v_MOST:Cst mg "MOST" (.int (100000))) (c_tops_but:Cal P w K mg base "tops_but" ["games","anchor","numbers","edge"] 3 (sp_tops_but K ns)) (c_after_rounds:Cal P w K mg base "after_rounds" ["games","anchor","first","rounds","edge","moved"] 5 (sp_after_rounds K ns)) (c_first_numbers:Cal P w K mg base "first_numbers" ["games","anchor","scale","others"] 2 (sp_first_numbers K ns)) (c_check_fit:Cal P w K mg base "check_fit" ["games","anchor"] 8 (sp_check_fit K ns)):CalN P w K mg base "lowers" ["games","anchor","scale","rounds","edge"] 9 (sp_lowers K ns):=by
  refine d.calX (k:=8) sc_lowers (fun vs H Q E h=>?_) (fun f cdv A outer s H vs Q E hr h=>?_)
  · match vs, h with
    | [.ref L, .str an, .int sc, .int n, e], _ => rfl
  · match vs, h with
    | [.ref L, .str an, .int sc, .int n, e], hq0 =>
      obtain ⟨gs,nm,z,⟨hB,bl,l60,sok,g60⟩,hsc,hn,he,rf,k⟩:=hq0
      refine ⟨_,(@pss_cons _ _ _ _ _ (@ps_expr _ _ _ _ (@e_callX _ _ _ _ _ _ _ _ _ _ _ _ _ _ _ _ _ _ _ _ _ _ _ _ _ c_check_fit hr (by decide) (by rfl) (@pa_cons _ _ _ _ _ (dv 0) (@pa_cons _ _ _ _ _ (dv 1) pa_nil (by rfl)) (by rfl)) (by decide) (by rfl) (by rfl)) (by rfl)) (@pss_cons _ _ _ _ _ (@ps_set _ _ (5) _ _ _ _ sc_lowers.nd rfl (by first | exact Or.inl rfl | exact Or.inr rfl) (@e_call _ _ _ _ _ _ _ _ _ _ _ c_after_rounds hr (by decide) (by rfl) (@pa_cons _ _ _ _ _ (dv 0) (@pa_cons _ _ _ _ _ (dv 1) (@pa_cons _ _ _ _ _ (@e_call _ _ _ _ _ _ _ _ _ _ _ c_first_numbers hr (by decide) (by rfl) (@pa_cons _ _ _ _ _ (dv 0) (@pa_cons _ _ _ _ _ (dv 1) (@pa_cons _ _ _ _ _ (dv 2) (@pa_cons _ _ _ _ _ (g_cst v_MOST (by rfl)) pa_nil (by rfl)) (by rfl)) (by rfl)) (by rfl)) (by decide) (by rfl) (by rfl)) (@pa_cons _ _ _ _ _ (dv 3) (@pa_cons _ _ _ _ _ (dv 4) (@pa_cons _ _ _ _ _ (g_fn v_lowered (by rfl)) pa_nil (by rfl)) (by rfl)) (by rfl)) (by rfl)) (by rfl)) (by rfl)) (by decide) (by rfl) (by rfl)) (by rfl) (by first | exact .inl rfl | exact .inr rfl | assumption)) (@pss_one _ _ _ (@ps_ret _ _ _ _ (@e_tup _ _ _ _ _ (@pa_cons _ _ _ _ _ (dv 5) (@pa_cons _ _ _ _ _ (@pe_callB _ _ _ _ _ _ _ _ _ (@c_all _ rfl) (by rfl) n_all (by decide +kernel) (@pa_cons _ _ _ _ _ (@e_compN _ _ _ _ _ _ _ _ _ _ ["top"] [] [] rfl (@pi_list _ _ _ _ (@e_call _ _ _ _ _ _ _ _ _ _ _ c_tops_but hr (by decide) (by rfl) (@pa_cons _ _ _ _ _ (dv 0) (@pa_cons _ _ _ _ _ (dv 1) (@pa_cons _ _ _ _ _ (dv 5) (@pa_cons _ _ _ _ _ (dv 4) pa_nil (by rfl)) (by rfl)) (by rfl)) (by rfl)) (by decide) (by rfl) (by rfl))) (fun C s H fp=>(@pg_name _ _ (0) _ (show List.Nodup [("top":Str)] by decide +kernel) rfl (by first | exact Or.inl rfl | exact Or.inr rfl) (by first | exact .inl rfl | exact .inr rfl | assumption))) (fun C s H fp=>(@pe_cmpR _ _ _ _ _ _ _ _ o_le (dv 0) pe_int (@nomark _ _ (by decide) (by decide)))) rfl rfl (by decide +kernel) (by decide +kernel) (by rfl) True.intro True.intro (by intro _; rfl)) pa_nil (by rfl)) (by decide) (by decide) (by rfl) (by rfl)) pa_nil (by rfl)) (by rfl))))))),?_⟩
      have pl60:(plr gs).length ≤ 60:=Nat.le_trans (plr_len bl.mem) l60
      have th := told_h bl
      have h64 : (plr gs).length < 64 := by omega
      refine ⟨gs,nm,⟨hB,bl,l60,sok⟩,fun ha han H1 s1=>?_,rf⟩
      have k := k ha han
      refine ⟨gs, ⟨hB.up s1, h64⟩, fun F H2 s2 _ e2 => ?_⟩
      have s02 := s1.trans s2
      have n1:Num (plr gs).length 0 (fstN gs an sc 100000):=fst_num hsc ⟨by decide,by decide⟩
      have nr:Num (plr gs).length 0 (rnds true gs z an (fstN gs an sc 100000) n.toNat):=rnds_num (lo:=true) (by decide) n1 _
      refine fun f hf=>⟨true,gs,_,z,⟨hB.up s02,h64,g60,th⟩,⟨SqL.of e2,n1.mono (by decide)⟩,he.up s02,hn,hf,fun U H3 s3 nU e3=>?_⟩
      have s03 := s02.trans s3
      generalize rnds true gs z an (fstN gs an sc 100000) n.toNat = us at k nr e3
      refine ⟨gs,us,z,⟨hB.up s03,h64,g60,th⟩,⟨SqL.of e3,nr⟩,he.up s03,fun D H4 s4 e4=>?_⟩
      have lf:((plr gs).filter (ask gs an us)).length ≤ (plr gs).length:=List.length_filter_le _ _
      refine ⟨D,rfl,⟨_,SqL.of e4⟩,comp_abs (fun _ v (u:Int)=>v = V.int u) (fun _ _ _ _ _ h=>h) (fun _ u y=>y = V.bl (decide (u ≤ 0))) (fun _ _ _ _ _ h=>h) (by rw [List.length_map,List.length_map]; omega) (SqL.of e4) (all2_int _) ?_ ?_⟩
      · intro v u H5 hM _ s5 P hP
        subst hM
        exact ⟨rfl, hP _ _ (Same.refl _) rfl⟩
      intro D5 H5 ys s5 _ e5 a5
      have y5 := all2_blI a5
      refine ⟨_,by rw [← y5]; exact SqL.of e5,fun T H6 s6 e6=>?_⟩
      have s36 := s4.trans (s5.trans s6)
      refine k T U H6 (s03.trans s36) (none_back s02 nU) ?_ (s36 _ _ e3)
      unfold stD
      rw [e6, List.map_map]
      rfl
def sp_uppers (K:PySem.W.Frag) (ns:List Int):Sp:=fun vs H Q E=>match vs with
  | [.ref L,.str an,.int sc,.int n,e]=>∃ (gs:List Gm) (nm:List Str) (z:Q2),BkF K H L gs nm∧(1 ≤ sc∧sc ≤ 100000)∧(0 ≤ n∧n ≤ 100)∧EdAt 17 H e z∧Rf K gs an H E∧(AllR gs→an ∈ plr gs→∀ T U H',Same H H'→H U = none→H' T = some (.tup [.ref U,.bl (stU gs z an (rnds false gs z an (fstN gs an sc 1) n.toNat))])→H' U = some (.lst ((rnds false gs z an (fstN gs an sc 1) n.toNat).map V.int))→Q (.ref T) H')
  | _ => False
theorem sc_uppers:FnScope ["games","anchor","scale","rounds","edge","numbers"] ["games","anchor","scale","rounds","edge"] (defScope s_uppers):=⟨rfl,rfl,rfl,by decide +kernel,rfl,by decide +kernel,by decide +kernel⟩
theorem ok_uppers (d:DfnN K mg "uppers" s_uppers ["games","anchor","scale","rounds","edge"]) (er:Errs K mg c_LadderError c_NoBook c_NoFit c_NoGame c_NoNumber c_NoPlayer c_NoRow c_NoStretch c_NoTable c_NoTree c_NoWorth) (n_all:mg "all" = none) (v_raised:FnV K mg "raised") (c_tops_but:Cal P w K mg base "tops_but" ["games","anchor","numbers","edge"] 3 (sp_tops_but K ns)) (c_after_rounds:Cal P w K mg base "after_rounds" ["games","anchor","first","rounds","edge","moved"] 5 (sp_after_rounds K ns)) (c_first_numbers:Cal P w K mg base "first_numbers" ["games","anchor","scale","others"] 2 (sp_first_numbers K ns)) (c_check_fit:Cal P w K mg base "check_fit" ["games","anchor"] 8 (sp_check_fit K ns)):CalN P w K mg base "uppers" ["games","anchor","scale","rounds","edge"] 9 (sp_uppers K ns):=by
  refine d.calX (k:=8) sc_uppers (fun vs H Q E h=>?_) (fun f cdv A outer s H vs Q E hr h=>?_)
  · match vs, h with
    | [.ref L, .str an, .int sc, .int n, e], _ => rfl
  · match vs, h with
    | [.ref L, .str an, .int sc, .int n, e], hq0 =>
      obtain ⟨gs,nm,z,⟨hB,bl,l60,sok,g60⟩,hsc,hn,he,rf,k⟩:=hq0
      refine ⟨_,(@pss_cons _ _ _ _ _ (@ps_expr _ _ _ _ (@e_callX _ _ _ _ _ _ _ _ _ _ _ _ _ _ _ _ _ _ _ _ _ _ _ _ _ c_check_fit hr (by decide) (by rfl) (@pa_cons _ _ _ _ _ (dv 0) (@pa_cons _ _ _ _ _ (dv 1) pa_nil (by rfl)) (by rfl)) (by decide) (by rfl) (by rfl)) (by rfl)) (@pss_cons _ _ _ _ _ (@ps_set _ _ (5) _ _ _ _ sc_uppers.nd rfl (by first | exact Or.inl rfl | exact Or.inr rfl) (@e_call _ _ _ _ _ _ _ _ _ _ _ c_after_rounds hr (by decide) (by rfl) (@pa_cons _ _ _ _ _ (dv 0) (@pa_cons _ _ _ _ _ (dv 1) (@pa_cons _ _ _ _ _ (@e_call _ _ _ _ _ _ _ _ _ _ _ c_first_numbers hr (by decide) (by rfl) (@pa_cons _ _ _ _ _ (dv 0) (@pa_cons _ _ _ _ _ (dv 1) (@pa_cons _ _ _ _ _ (dv 2) (@pa_cons _ _ _ _ _ pe_int pa_nil (by rfl)) (by rfl)) (by rfl)) (by rfl)) (by decide) (by rfl) (by rfl)) (@pa_cons _ _ _ _ _ (dv 3) (@pa_cons _ _ _ _ _ (dv 4) (@pa_cons _ _ _ _ _ (g_fn v_raised (by rfl)) pa_nil (by rfl)) (by rfl)) (by rfl)) (by rfl)) (by rfl)) (by rfl)) (by decide) (by rfl) (by rfl)) (by rfl) (by first | exact .inl rfl | exact .inr rfl | assumption)) (@pss_one _ _ _ (@ps_ret _ _ _ _ (@e_tup _ _ _ _ _ (@pa_cons _ _ _ _ _ (dv 5) (@pa_cons _ _ _ _ _ (@pe_callB _ _ _ _ _ _ _ _ _ (@c_all _ rfl) (by rfl) n_all (by decide +kernel) (@pa_cons _ _ _ _ _ (@e_compN _ _ _ _ _ _ _ _ _ _ ["top"] [] [] rfl (@pi_list _ _ _ _ (@e_call _ _ _ _ _ _ _ _ _ _ _ c_tops_but hr (by decide) (by rfl) (@pa_cons _ _ _ _ _ (dv 0) (@pa_cons _ _ _ _ _ (dv 1) (@pa_cons _ _ _ _ _ (dv 5) (@pa_cons _ _ _ _ _ (dv 4) pa_nil (by rfl)) (by rfl)) (by rfl)) (by rfl)) (by decide) (by rfl) (by rfl))) (fun C s H fp=>(@pg_name _ _ (0) _ (show List.Nodup [("top":Str)] by decide +kernel) rfl (by first | exact Or.inl rfl | exact Or.inr rfl) (by first | exact .inl rfl | exact .inr rfl | assumption))) (fun C s H fp=>(@pe_cmpR _ _ _ _ _ _ _ _ o_ge (dv 0) pe_int (@nomark _ _ (by decide) (by decide)))) rfl rfl (by decide +kernel) (by decide +kernel) (by rfl) True.intro True.intro (by intro _; rfl)) pa_nil (by rfl)) (by decide) (by decide) (by rfl) (by rfl)) pa_nil (by rfl)) (by rfl))))))),?_⟩
      have pl60:(plr gs).length ≤ 60:=Nat.le_trans (plr_len bl.mem) l60
      have th := told_h bl
      have h64 : (plr gs).length < 64 := by omega
      refine ⟨gs,nm,⟨hB,bl,l60,sok⟩,fun ha han H1 s1=>?_,rf⟩
      have k := k ha han
      refine ⟨gs, ⟨hB.up s1, h64⟩, fun F H2 s2 _ e2 => ?_⟩
      have s02 := s1.trans s2
      have n1:Num (plr gs).length 0 (fstN gs an sc 1):=fst_num hsc ⟨by decide,by decide⟩
      have nr:Num (plr gs).length 0 (rnds false gs z an (fstN gs an sc 1) n.toNat):=rnds_num (lo:=false) (by decide) n1 _
      refine fun f hf=>⟨false,gs,_,z,⟨hB.up s02,h64,g60,th⟩,⟨SqL.of e2,n1.mono (by decide)⟩,he.up s02,hn,hf,fun U H3 s3 nU e3=>?_⟩
      have s03 := s02.trans s3
      generalize rnds false gs z an (fstN gs an sc 1) n.toNat = us at k nr e3
      refine ⟨gs,us,z,⟨hB.up s03,h64,g60,th⟩,⟨SqL.of e3,nr⟩,he.up s03,fun D H4 s4 e4=>?_⟩
      have lf:((plr gs).filter (ask gs an us)).length ≤ (plr gs).length:=List.length_filter_le _ _
      refine ⟨D,rfl,⟨_,SqL.of e4⟩,comp_abs (fun _ v (u:Int)=>v = V.int u) (fun _ _ _ _ _ h=>h) (fun _ u y=>y = V.bl (decide (0 ≤ u))) (fun _ _ _ _ _ h=>h) (by rw [List.length_map,List.length_map]; omega) (SqL.of e4) (all2_int _) ?_ ?_⟩
      · intro v u H5 hM _ s5 P hP
        subst hM
        exact ⟨rfl, hP _ _ (Same.refl _) rfl⟩
      intro D5 H5 ys s5 _ e5 a5
      have y5 := all2_blI a5
      refine ⟨_,by rw [← y5]; exact SqL.of e5,fun T H6 s6 e6=>?_⟩
      have s36 := s4.trans (s5.trans s6)
      refine k T U H6 (s03.trans s36) (none_back s02 nU) ?_ (s36 _ _ e3)
      unfold stU
      rw [e6, List.map_map]
      rfl
def SdOk (gs:List Gm):Prop:=∀ g ∈ gs,-1 ≤ g.s∧g.s ≤ 1
section
variable (val : Str → Q2) (z : Q2) (x : Str)
end
def vF (f : Str → Int) (y : Str) : Q2 := (f y, 1)
section
variable {f:Str→Int} {us:List Int} {z:Q2} {gs:List Gm} {x:Str} {v:Int}
end
def LEn (gs:List Gm) (us ws:List Int):Prop:=∀ y ∈ plr gs,(wOf (plr gs) (nq us) y).1 ≤ (wOf (plr gs) (nq ws) y).1
theorem wOf_put:∀ {names:List Str} {us:List Int} {k:Nat} {w:Int} {x y:Str},names[k]? = some x→y ≠ x→wOf names (nq (us.set k w)) y = wOf names (nq us) y
  | [], _, _, _, _, _, _, _ => rfl
  | _ :: _, [], _, _, _, _, _, _ => rfl
  | n :: names, u :: us, 0, w, x, y, h, ne => by
    have e : n = x := by simpa using h
    have ny : ¬ n = y := fun z => ne (z.symm.trans e)
    show (if n = y then ((w,1):Q2) else wOf names (nq us) y) = (if n = y then ((u,1):Q2) else wOf names (nq us) y)
    rw [if_neg ny, if_neg ny]
  | n :: names, u :: us, k + 1, w, x, y, h, ne => by
    show (if n = y then ((u,1):Q2) else wOf names (nq (us.set k w)) y) = (if n = y then ((u,1):Q2) else wOf names (nq us) y)
    rw [wOf_put (us:=us) (k:=k) (w:=w) (by simpa using h) ne]
theorem wOf_ix:∀ {names:List Str} {us:List Int} {k:Nat} {u:Int} {x:Str},names.Nodup→names[k]? = some x→us[k]? = some u→wOf names (nq us) x = (u,1)
  | [], _, _, _, _, _, h, _ => by simp at h
  | _ :: _, [], _, _, _, _, _, h => by simp at h
  | n :: names, v :: us, 0, u, x, nd, h, h' => by
    have e : n = x := by simpa using h
    have e' : v = u := by simpa using h'
    show (if n = x then ((v,1):Q2) else wOf names (nq us) x) = (u,1)
    rw [if_pos e, e']
  | n :: names, v :: us, k + 1, u, x, nd, h, h' => by
    rw [List.nodup_cons] at nd
    have h : names[k]? = some x := by simpa using h
    have ne:¬ n = x:=fun z=>nd.1 (z ▸ List.mem_of_getElem? h)
    show (if n = x then ((v,1):Q2) else wOf names (nq us) x) = (u,1)
    rw [if_neg ne]
    exact wOf_ix nd.2 h (by simpa using h')
section
variable {lo:Bool} {nm:List Str} {gs:List Gm} {z:Q2} {an:Str}
theorem stp_at {us:List Int} {i:Nat} {x:Str} (hu:us.length = (plr gs).length) (hx:(plr gs)[i]? = some x):(wOf (plr gs) (nq (stp lo gs z an us i)) x).1 = if x = an then (wOf (plr gs) (nq us) x).1 else mvd lo gs z us x:=by
  unfold stp
  rw [hx]
  show (wOf (plr gs) (nq (if x = an then us else us.set i (mvd lo gs z us x))) x).1 = _
  split
  · rfl
  · have hi := (List.getElem?_eq_some_iff.mp hx).1
    have e:wOf (plr gs) (nq (us.set i (mvd lo gs z us x))) x = (mvd lo gs z us x,1):=wOf_ix (names:=plr gs) (inc_nodup (inc_srt _)) hx (by rw [List.getElem?_set_self (by omega)])
    rw [e]
theorem stp_off {us:List Int} {i:Nat} {y:Str} (h:(plr gs)[i]? ≠ some y):wOf (plr gs) (nq (stp lo gs z an us i)) y = wOf (plr gs) (nq us) y:=by
  unfold stp
  split
  · rename_i x hx
    split
    · rfl
    · exact wOf_put hx fun e => h (e ▸ hx)
  · rfl
end
def LEl (us ws:List Int):Prop:=∀ (k:Nat) (a b:Int),us[k]? = some a→ws[k]? = some b→a ≤ b
theorem len_lel {gs:List Gm} {us ws:List Int} (h:LEn gs us ws) (lu:us.length = (plr gs).length) (lw:ws.length = (plr gs).length):LEl us ws:=fun k a b ha hb=>by
  have hk := (List.getElem?_eq_some_iff.mp ha).1
  have hx:(plr gs)[k]? = some ((plr gs)[k]'(by omega)):=List.getElem?_eq_getElem (by omega)
  have nd : (plr gs).Nodup := inc_nodup (inc_srt _)
  have := h _ (List.mem_of_getElem? hx)
  rw [wOf_ix nd hx ha, wOf_ix nd hx hb] at this
  exact this
theorem tkr_tld {gs:List Gm} {x y:Str} (h:y ∈ tkr x gs):∃ g ∈ tld x gs,g.b = y:=by
  unfold tkr at h
  rw [mem_srt, List.mem_map] at h
  obtain ⟨g, hg, e⟩ := h
  exact ⟨g, (List.mem_filter.mp hg).1, e⟩
theorem mul_np {x p:Int} (hp:0 < p) (h:x * p ≤ 0):x ≤ 0:=Int.not_lt.mp fun c=>absurd (Int.mul_pos c hp) (Int.not_lt.mpr h)
def fo (a b:Gm→Int) (gs:List Gm) (s:Int × Int):Int × Int:=gs.foldl (fun t g=>(t.1 * (a g + b g) + a g * t.2,t.2 * (a g + b g))) s
theorem fo_cmp {a b a' b':Gm→Int}:∀ {gs:List Gm} {s s':Int × Int},0 < s.2→0 < s'.2→s.1 * s'.2 ≤ s'.1 * s.2→(∀ g ∈ gs,0 < a g∧0 ≤ b g∧0 < a' g∧0 ≤ b' g∧a g * b' g ≤ a' g * b g) →
    0 < (fo a b gs s).2∧0 < (fo a' b' gs s').2∧(fo a b gs s).1 * (fo a' b' gs s').2 ≤ (fo a' b' gs s').1 * (fo a b gs s).2∧((fo a' b' gs s').1 * (fo a b gs s).2 ≤ (fo a b gs s).1 * (fo a' b' gs s').2→s'.1 * s.2 ≤ s.1 * s'.2∧∀ g ∈ gs,a' g * b g ≤ a g * b' g)
  | [],s,s',h,h',I,_=>⟨h,h',I,fun e=>⟨e,fun g hg=>absurd hg (by simp)⟩⟩
  | g :: gs, s, s', h, h', I, hg => by
    obtain ⟨p1, p2, p3, p4, p5⟩ := hg g List.mem_cons_self
    obtain ⟨t, u⟩ := s
    obtain ⟨t', u'⟩ := s'
    have key:(t' * (a' g + b' g) + a' g * u') * (u * (a g + b g)) - (t * (a g + b g) + a g * u) * (u' * (a' g + b' g)) = (t' * u - t * u') * ((a g + b g) * (a' g + b' g)) + (a' g * b g - a g * b' g) * (u * u'):=by grind
    have P:0 < (a g + b g) * (a' g + b' g):=Int.mul_pos (by omega) (by omega)
    have U : 0 < u * u' := Int.mul_pos h h'
    have I : t * u' ≤ t' * u := I
    have D0:0 ≤ (t' * u - t * u') * ((a g + b g) * (a' g + b' g)):=Int.mul_nonneg (by omega) (Int.le_of_lt P)
    have E0:0 ≤ (a' g * b g - a g * b' g) * (u * u'):=Int.mul_nonneg (by omega) (Int.le_of_lt U)
    obtain ⟨q1,q2,q3,q4⟩:=fo_cmp (a:=a) (b:=b) (a':=a') (b':=b') (gs:=gs) (s:=(t * (a g + b g) + a g * u,u * (a g + b g))) (s':=(t' * (a' g + b' g) + a' g * u',u' * (a' g + b' g))) (Int.mul_pos h (by omega)) (Int.mul_pos h' (by omega)) (by show (t * (a g + b g) + a g * u) * (u' * (a' g + b' g)) ≤ (t' * (a' g + b' g) + a' g * u') * (u * (a g + b g)); omega) fun y hy=>hg y (List.mem_cons_of_mem _ hy)
    refine ⟨q1, q2, q3, fun e => ?_⟩
    obtain ⟨r1, r2⟩ := q4 e
    have r1:(t' * (a' g + b' g) + a' g * u') * (u * (a g + b g)) ≤ (t * (a g + b g) + a g * u) * (u' * (a' g + b' g)):=r1
    have z1:=mul_np P (show (t' * u - t * u') * ((a g + b g) * (a' g + b' g)) ≤ 0 by omega)
    have z2:=mul_np U (show (a' g * b g - a g * b' g) * (u * u') ≤ 0 by omega)
    refine ⟨by show t' * u ≤ t * u'; omega, fun y hy => ?_⟩
    rcases List.mem_cons.mp hy with rfl | hy
    · omega
    · exact r2 y hy
theorem max_ratio {f g:Str→Int}:∀ {l:List Str},(∀ x ∈ l,0 < f x)→l ≠ []→∃ i ∈ l,∀ j ∈ l,g j * f i ≤ g i * f j
  | [], _, h => absurd rfl h
  | [x], _, _ => ⟨x, List.mem_cons_self, fun j hj => by
      rw [List.mem_singleton] at hj
      subst hj
      exact Int.le_refl _⟩
  | x :: y :: l, hf, _ => by
    obtain ⟨i,hi,hm⟩:=max_ratio (f:=f) (g:=g) (l:=y :: l) (fun z hz=>hf z (List.mem_cons_of_mem _ hz)) (by simp)
    have fx := hf x List.mem_cons_self
    have fi := hf i (List.mem_cons_of_mem _ hi)
    by_cases c : g x * f i ≤ g i * f x
    · exact ⟨i, List.mem_cons_of_mem _ hi, fun j hj => by
        rcases List.mem_cons.mp hj with rfl | hj
        · exact c
        · exact hm j hj⟩
    · refine ⟨x, List.mem_cons_self, fun j hj => ?_⟩
      rcases List.mem_cons.mp hj with rfl | hj
      · exact Int.le_refl _
      · have h1 := hm j hj
        have fj := hf j (List.mem_cons_of_mem _ hj)
        have h2:=Int.mul_le_mul_of_nonneg_right h1 (Int.le_of_lt fx)
        have h3:=Int.mul_le_mul_of_nonneg_right (show g i * f x ≤ g x * f i by omega) (Int.le_of_lt fj)
        have h4 : (g j * f x - g x * f j) * f i ≤ 0 := by
          have e1:(g j * f x - g x * f j) * f i = g j * f i * f x - g x * f i * f j:=by grind
          have e2:g i * f j * f x = g i * f x * f j:=by grind
          omega
        have := mul_np fi h4
        omega
theorem rch_on {gs:List Gm} {S:Str→Prop} (h:∀ x,S x→∀ g ∈ tld x gs,S g.b) {x y:Str} (r:Rch gs x y) (hx:S x):S y:=by
  induction r with
  | here => exact hx
  | step _ hy ih =>
    obtain ⟨g, hg, rfl⟩ := tkr_tld hy
    exact h _ ih g hg
theorem od_x {v n v' n' s:Int} {z:Q2} (z1:0 < z.1) (z2:0 < z.2):∃ c:Int,0 < c∧odA (v,1) (n,1) z s * odB (v',1) (n',1) z s = v * n' * c∧odA (v',1) (n',1) z s * odB (v,1) (n,1) z s = v' * n * c:=by
  unfold odA odB
  by_cases h : s = 0
  · exact ⟨1,by decide,by rw [if_pos h,if_pos h]; show v * 1 * (n' * 1) = _; grind,by rw [if_pos h,if_pos h]; show v' * 1 * (n * 1) = _; grind⟩
  · by_cases h1 : s = 1
    · refine ⟨z.1 * z.2, Int.mul_pos z1 z2, ?_, ?_⟩
      · rw [if_neg h, if_neg h, if_pos h1, if_pos h1]
        show v * 1 * z.1 * (n' * 1 * z.2) = _
        grind
      · rw [if_neg h, if_neg h, if_pos h1, if_pos h1]
        show v' * 1 * z.1 * (n * 1 * z.2) = _
        grind
    · refine ⟨z.1 * z.2, Int.mul_pos z1 z2, ?_, ?_⟩
      · rw [if_neg h, if_neg h, if_neg h1, if_neg h1]
        show v * 1 * z.2 * (n' * 1 * z.1) = _
        grind
      · rw [if_neg h, if_neg h, if_neg h1, if_neg h1]
        show v' * 1 * z.2 * (n * 1 * z.1) = _
        grind
theorem mul_le_c {x y c:Int} (hc:0 < c):x * c ≤ y * c ↔ x ≤ y:=⟨fun h=>Int.le_of_mul_le_mul_right h hc,fun h=>Int.mul_le_mul_of_nonneg_right h (Int.le_of_lt hc)⟩
theorem between {gs:List Gm} {z:Q2} {an:Str} {f g:Str→Int} (z1:0 < z.1) (z2:0 < z.2) (ha:AllR gs) (han:an ∈ plr gs) (hf:∀ x ∈ plr gs,0 < f x) (hg:∀ x ∈ plr gs,0 ≤ g x)
    (ov:∀ x ∈ plr gs,x ≠ an→0 ≤ topN (vF f) z gs x (f x)) (un:∀ x ∈ plr gs,x ≠ an→g x ≠ 0→topN (vF g) z gs x (g x) ≤ 0):∀ x ∈ plr gs,g x * f an ≤ g an * f x:=by
  obtain ⟨i,hi,hm⟩:=max_ratio (g:=g) hf (List.ne_nil_of_mem han)
  by_cases c : g i * f an ≤ g an * f i
  · intro x hx
    have h1 := hm x hx
    have h2:=Int.mul_le_mul_of_nonneg_right h1 (Int.le_of_lt (hf an han))
    have h3:=Int.mul_le_mul_of_nonneg_right c (Int.le_of_lt (hf x hx))
    have fi := hf i hi
    have h4 : (g x * f an - g an * f x) * f i ≤ 0 := by
      have e1:(g x * f an - g an * f x) * f i = g x * f i * f an - g an * f i * f x:=by grind
      have e2:g i * f x * f an = g i * f an * f x:=by grind
      omega
    have := mul_np fi h4
    omega
  · exfalso
    have c := Int.not_le.mp c
    have cl:∀ x,(x ∈ plr gs∧g x * f i = g i * f x)→∀ y ∈ tld x gs,(y.b ∈ plr gs∧g y.b * f i = g i * f y.b):=by
      rintro x ⟨hx, ex⟩ y hy
      have fi := hf i hi
      have fx := hf x hx
      have gi : 0 < g i := by
        refine Int.not_le.mp fun h => ?_
        have h1:=Int.mul_nonneg (hg an han) (Int.le_of_lt fi)
        have h2:=Int.mul_nonpos_of_nonpos_of_nonneg h (Int.le_of_lt (hf an han))
        omega
      have gx : 0 < g x := by
        have:0 < g x * f i:=by rw [ex]; exact Int.mul_pos gi fx
        exact Int.not_le.mp fun h=>absurd (Int.mul_nonpos_of_nonpos_of_nonneg h (Int.le_of_lt fi)) (Int.not_le.mpr this)
      have nx : x ≠ an := by
        rintro rfl
        omega
      have o := ov x hx nx
      have u := un x hx nx (by omega)
      have cr:∀ y ∈ tld x gs,0 < sA (vF f) (f x,1) z y∧0 ≤ sB (vF f) (f x,1) z y∧0 < sA (vF g) (g x,1) z y∧0 ≤ sB (vF g) (g x,1) z y∧sA (vF f) (f x,1) z y * sB (vF g) (g x,1) z y ≤ sA (vF g) (g x,1) z y * sB (vF f) (f x,1) z y:=fun y hy=>by
        have my := told_p x y hy
        refine ⟨odA_pos (x:=(f x,1)) fx (by show (0:Int) < 1; decide) z1 z2,odB_nn (x:=(f x,1)) (by show 0 ≤ f y.b; exact Int.le_of_lt (hf _ my)) (by show (0:Int) < 1; decide) z1 z2,odA_pos (x:=(g x,1)) gx (by show (0:Int) < 1; decide) z1 z2,odB_nn (x:=(g x,1)) (hg _ my) (by show (0:Int) < 1; decide) z1 z2,?_⟩
        obtain ⟨k,k0,e1,e2⟩:=od_x (v:=f x) (n:=f y.b) (v':=g x) (n':=g y.b) (s:=y.s) z1 z2
        show odA (f x,1) (f y.b,1) z y.s * odB (g x,1) (g y.b,1) z y.s ≤ odA (g x,1) (g y.b,1) z y.s * odB (f x,1) (f y.b,1) z y.s
        rw [e1, e2, mul_le_c k0]
        have h1:=Int.mul_le_mul_of_nonneg_right (hm _ my) (Int.le_of_lt fx)
        have h4:(f x * g y.b - g x * f y.b) * f i ≤ 0:=by
          have e1:(f x * g y.b - g x * f y.b) * f i = g y.b * f i * f x - g x * f i * f y.b:=by grind
          rw [e1, ex]
          have e2:g i * f y.b * f x = g i * f x * f y.b:=by grind
          omega
        have := mul_np fi h4
        omega
      obtain ⟨p,p',m,eq⟩:=fo_cmp (s:=(0,1)) (s':=(0,1)) (by decide) (by decide) (Int.le_refl _) cr
      change 0 < (osT (vF f) (f x, 1) z (tld x gs)).2 at p
      change 0 < (osT (vF g) (g x, 1) z (tld x gs)).2 at p'
      change (osT (vF f) (f x,1) z (tld x gs)).1 * (osT (vF g) (g x,1) z (tld x gs)).2 ≤ (osT (vF g) (g x,1) z (tld x gs)).1 * (osT (vF f) (f x,1) z (tld x gs)).2 at m
      change (osT (vF g) (g x,1) z (tld x gs)).1 * (osT (vF f) (f x,1) z (tld x gs)).2 ≤ (osT (vF f) (f x,1) z (tld x gs)).1 * (osT (vF g) (g x,1) z (tld x gs)).2→_ at eq
      unfold topN at o u
      generalize osT (vF f) (f x,1) z (tld x gs) = A at p m eq o
      generalize osT (vF g) (g x,1) z (tld x gs) = B at p' m eq u
      generalize osH (tld x gs) = w at o u
      have h1 := Int.mul_nonneg o (Int.le_of_lt p')
      have h2:=Int.mul_nonpos_of_nonpos_of_nonneg u (Int.le_of_lt p)
      have e1:(2 * A.1 - w * A.2) * B.2 = 2 * (A.1 * B.2) - w * (A.2 * B.2):=by grind
      have e2:(2 * B.1 - w * B.2) * A.2 = 2 * (B.1 * A.2) - w * (A.2 * B.2):=by grind
      have r := (eq (by omega)).2 y hy
      have my := told_p x y hy
      refine ⟨my, Int.le_antisymm (hm _ my) ?_⟩
      obtain ⟨k,k0,e1,e2⟩:=od_x (v:=f x) (n:=f y.b) (v':=g x) (n':=g y.b) (s:=y.s) z1 z2
      have r:odA (g x,1) (g y.b,1) z y.s * odB (f x,1) (f y.b,1) z y.s ≤ odA (f x,1) (f y.b,1) z y.s * odB (g x,1) (g y.b,1) z y.s:=r
      rw [e1, e2, mul_le_c k0] at r
      have h1:=Int.mul_le_mul_of_nonneg_right r (Int.le_of_lt fi)
      have h4 : (g i * f y.b - g y.b * f i) * f x ≤ 0 := by
        have e1:(g i * f y.b - g y.b * f i) * f x = g i * f x * f y.b - f x * g y.b * f i:=by grind
        rw [e1, ← ex]
        have e2:g x * f y.b * f i = g x * f i * f y.b:=by grind
        omega
      have := mul_np fx h4
      omega
    have:=(rch_on (S:=fun x=>x ∈ plr gs∧g x * f i = g i * f x) cl (ha i hi an han) ⟨hi,rfl⟩).2
    omega
theorem comp_zip {β:Type} {K:PySem.W.Frag} {a b:Addr} {xs ys:List V} {ms:List β} {g:TG} {te:TE} {k:Nat} {js:List Nat} {σ:L2.St} {H1:Hp} {Q:VK} (M:Hp→V→V→β→Prop) (upM:∀ v u m H H',Kt H H'→M H v u m→M H' v u m) (R:Hp→β→V→Prop) (up:∀ m y H H',Kt H H'→R H m y→R H' m y)
    (hz:ms.length ≤ 1000) (hx:SqL K H1 a xs) (hy:SqL K H1 b ys) (lx:xs.length = ms.length) (ly:ys.length = ms.length) (hm:∀ (i:Nat) x y m,xs[i]? = some x→ys[i]? = some y→ms[i]? = some m→M H1 x y m)
    (hs:∀ x y m t H2,M H2 x y m→m ∈ ms→Same H1 H2→H2 t = some (.tup [x,y])→∀ P:VK,(∀ y H3,Same H2 H3→R H3 m y→P y H3)→g (.ref t) (List.replicate k none ++ capσ js σ) H2 fun σ2 H3=>σ2.drop k = capσ js σ∧te σ2 H3 P)
    (hq:∀ D H' zs,Same H1 H'→H1 D = none→H' D = some (.lst zs)→All2 (R H') ms zs→Q (.ref D) H'):CGoal (Itz true true K a b) g te k js σ H1 Q:=by
  unfold CGoal
  intro D hD
  refine ⟨fun i m H=>m = ms.length - i∧i ≤ ms.length∧Same H1 H∧∃ zs,H D = some (.lst zs)∧All2 (R H) (ms.take i) zs,⟨ms.length,by simp,Nat.zero_le _,same_upd hD,[],upd_same,.nil⟩,?_⟩
  rintro i m H ⟨rfl, hi, sm, zs, hH, ar⟩
  have sq1 : SqK true K H a xs := sm.seq hx
  have sq2 : SqK true K H b ys := sm.seq hy
  by_cases hlt : i < ms.length
  · have e1:xs[i]? = some (xs[i]'(by omega)):=List.getElem?_eq_getElem _
    have e2:ys[i]? = some (ys[i]'(by omega)):=List.getElem?_eq_getElem _
    have e3:ms[i]? = some ms[i]:=List.getElem?_eq_getElem _
    refine .inr ⟨⟨xs,ys,_,_,sq1,sq2,e1,e2⟩,fun v H' yl=>?_⟩
    obtain ⟨t, x, y, rfl, ht, rfl, y1, y2⟩ := yl
    have st : Same H (upd H t (.tup [x, y])) := same_upd ht
    have et:upd H t (.tup [x,y]) t = some (.tup [x,y]):=upd_same
    generalize upd H t (.tup [x, y]) = H2 at st et
    have hH := st _ _ hH
    have s2 := sm.trans st
    have hM := hm i x y _ (y1 xs sq1) (y2 ys sq2) e3
    refine hs x y _ t H2 (upM _ _ _ _ _ (kt_of s2) hM) (List.mem_of_getElem? e3) s2 et _ fun u H3 s3 r3=>⟨zs,s3 _ _ hH,?_,ms.length - (i + 1),by omega,rfl,hlt,same_app' (s2.trans s3) hD,zs ++ [u],upd_same,?_⟩
    · rw [← ar.len, List.length_take]
      exact Nat.lt_of_le_of_lt (Nat.min_le_left _ _) (Nat.lt_of_lt_of_le hlt (Nat.le_trans hz (by decide)))
    · have kt:Kt H3 (upd H3 D (.lst (zs ++ [u]))):=kt_upd (s3 _ _ hH)
      rw [List.take_add_one, e3]
      exact (ar.imp fun v y r=>up v y _ _ ((kt_of (st.trans s3)).trans kt) r).snoc (up _ _ _ _ kt r3)
  · have e : i = ms.length := by omega
    subst e
    rw [List.take_length] at ar
    exact .inl ⟨⟨xs,ys,sq1,sq2,.inl (by omega)⟩,hq D _ zs sm hD hH ar⟩
theorem a2_swap {α β:Type} {R:α→β→Prop}:∀ {l:List α} {m:List β},All2 R l m→All2 (fun b a=>R a b) m l
  | _, _, .nil => .nil
  | _, _, .cons h t => .cons h (a2_swap t)
theorem wOf_fn:∀ {names:List Str} {f:Str→Int} {x:Str},x ∈ names→wOf names (nq (names.map f)) x = (f x,1)
  | [], _, _, h => by simp at h
  | n :: names, f, x, h => by
    show (if n = x then ((f n,1):Q2) else wOf names (nq (names.map f)) x) = (f x,1)
    split
    · rename_i e
      rw [e]
    · rename_i ne
      exact wOf_fn ((List.mem_cons.mp h).resolve_left fun z=>ne z.symm)
section
variable {lo : Bool} {gs : List Gm} {z : Q2} {an : Str}
theorem stp_an {us:List Int} {i:Nat} (hu:us.length = (plr gs).length):(wOf (plr gs) (nq (stp lo gs z an us i)) an).1 = (wOf (plr gs) (nq us) an).1:=by
  by_cases c : (plr gs)[i]? = some an
  · rw [stp_at hu c, if_pos rfl]
  · rw [stp_off c]
theorem rndI_an {us:List Int} (hu:Num (plr gs).length 0 us):∀ i,(wOf (plr gs) (nq (rndI lo gs z an us i)) an).1 = (wOf (plr gs) (nq us) an).1
  | 0 => rfl
  | i + 1 => by
    rw [rndI_succ,stp_an (rndI_num (lst_nn lo) hu i).1,rndI_an hu i]
theorem rnds_an {us:List Int} (hu:Num (plr gs).length 0 us):∀ n,(wOf (plr gs) (nq (rnds lo gs z an us n)) an).1 = (wOf (plr gs) (nq us) an).1
  | 0 => rfl
  | n + 1=>(rndI_an (rnds_num (lst_nn lo) hu n) _).trans (rnds_an hu n)
theorem fst_num1 {sc ot:Int} (h1:1 ≤ sc∧sc ≤ 100000) (h2:1 ≤ ot∧ot ≤ 100000):Num (plr gs).length 1 (fstN gs an sc ot):=by
  refine ⟨List.length_map .., fun u hu => ?_⟩
  unfold fstN at hu
  obtain ⟨x, _, rfl⟩ := List.mem_map.mp hu
  split
  · omega
  · omega
theorem fst_an {sc ot:Int} (h:an ∈ plr gs):(wOf (plr gs) (nq (fstN gs an sc ot)) an).1 = sc:=by
  unfold fstN
  rw [wOf_fn h]
  exact if_pos rfl
theorem stU_get {us:List Int} (h:stU gs z an us = true) {x:Str} (hx:x ∈ plr gs) (nx:x ≠ an) (n0:(wOf (plr gs) (nq us) x).1 ≠ 0):0 ≤ topA gs z us x:=by
  unfold stU at h
  rw [List.all_eq_true] at h
  exact of_decide_eq_true (h _ (List.mem_map.mpr ⟨x,List.mem_filter.mpr ⟨hx,by simp [ask,nx,n0]⟩,rfl⟩))
theorem stD_get {us:List Int} (h:stD gs z an us = true) {x:Str} (hx:x ∈ plr gs) (nx:x ≠ an) (n0:(wOf (plr gs) (nq us) x).1 ≠ 0):topA gs z us x ≤ 0:=by
  unfold stD at h
  rw [List.all_eq_true] at h
  exact of_decide_eq_true (h _ (List.mem_map.mpr ⟨x,List.mem_filter.mpr ⟨hx,by simp [ask,nx,n0]⟩,rfl⟩))
theorem wOf_vF (us:List Int):wOf (plr gs) (nq us) = vF fun y=>(wOf (plr gs) (nq us) y).1:=funext fun y=>wOf_nq' _ _ _
theorem ends_le {us ws:List Int} {sc:Int} (z1:0 < z.1) (z2:0 < z.2) (ha:AllR gs) (han:an ∈ plr gs) (hsc:0 < sc) (hu:Num (plr gs).length 0 us) (hw:Num (plr gs).length 1 ws) (au:(wOf (plr gs) (nq us) an).1 = sc) (aw:(wOf (plr gs) (nq ws) an).1 = sc) (hD:stD gs z an us = true) (hU:stU gs z an ws = true):LEn gs us ws:=by
  have b:=between (gs:=gs) (z:=z) (an:=an) (f:=fun y=>(wOf (plr gs) (nq ws) y).1) (g:=fun y=>(wOf (plr gs) (nq us) y).1) z1 z2 ha han (fun x hx=>by have:=(hw.2 _ (num_in' hw.1 hx)).1; omega) (fun x hx=>(hu.2 _ (num_in' hu.1 hx)).1) (fun x hx nx=>?_) (fun x hx nx n0=>?_)
  · intro y hy
    have := b y hy
    rw [au, aw, Int.mul_comm sc] at this
    exact Int.le_of_mul_le_mul_right this hsc
  · rw [← wOf_vF]
    exact stU_get hU hx nx (by have:=(hw.2 _ (num_in' hw.1 hx)).1; omega)
  · rw [← wOf_vF]
    exact stD_get hD hx nx n0
end
def lwQ (b:Bool) (sc u:Int):Q2:=if b = true then (frT u sc,frB u sc) else (0,1)
def hgQ (b:Bool) (sc u:Int):Option Q2:=if b = true then some (frT u sc,frB u sc) else none
def StAt (H:Hp) (v:V) (q:Q2 × Option Q2):Prop:=∃ r,v = .ref r∧Pq 17 H r q.1 q.2
theorem fq_kt {n:Nat} {H H':Hp} {p:Addr} {a b:Int} (k:Kt H H') (h:Fq n H p a b):Fq n H' p a b:=⟨k _ _ h.at',h.pos,h.ba,h.bb⟩
theorem st_up (v:V) (q:Q2 × Option Q2) (H H':Hp) (k:Kt H H') (h:StAt H v q):StAt H' v q:=by
  obtain ⟨r, e, ⟨l, x, h1, h2, h3⟩⟩ := h
  refine ⟨r, e, ⟨l, x, k _ _ h1, fq_kt k h2, ?_⟩⟩
  rcases h3 with h3 | ⟨q, y, e1, e2, h3⟩
  · exact .inl h3
  · exact .inr ⟨q, y, e1, e2, fq_kt k h3⟩
theorem fr_le {u w sc:Int} (hsc:0 < sc) (h:u ≤ w):ltQ (frT w sc,frB w sc) (frT u sc,frB u sc) = false:=by
  rw [ltQ_f]
  show frT u sc * frB w sc ≤ frT w sc * frB u sc
  have c1 := fr_cross u sc
  have c2 := fr_cross w sc
  have p1 := frB_pos u (show sc ≠ 0 by omega)
  have p2 := frB_pos w (show sc ≠ 0 by omega)
  have pp := Int.mul_pos p1 p2
  have h1:=Int.mul_le_mul_of_nonneg_right h (Int.le_of_lt pp)
  have e1:frT u sc * frB w sc * sc = u * (frB u sc * frB w sc):=by
    generalize frT u sc = a at *
    generalize frB w sc = b at *
    generalize frB u sc = c at *
    have : a * b * sc = a * sc * b := by grind
    rw [this, c1]
    grind
  have e2:frT w sc * frB u sc * sc = w * (frB u sc * frB w sc):=by
    generalize frT w sc = a at *
    generalize frB w sc = b at *
    generalize frB u sc = c at *
    have : a * c * sc = a * sc * c := by grind
    rw [this, c2]
    grind
  rw [← e1, ← e2] at h1
  exact Int.le_of_mul_le_mul_right h1 hsc
theorem fr_nn {w sc:Int} (hsc:0 < sc) (h:0 ≤ w):ltQ (frT w sc,frB w sc) (0,1) = false:=by
  rw [ltQ_f]
  show 0 * frB w sc ≤ frT w sc * 1
  have c := fr_cross w sc
  have p := frB_pos w (show sc ≠ 0 by omega)
  have:0 ≤ frT w sc * sc:=by rw [c]; exact Int.mul_nonneg h (Int.le_of_lt p)
  have:=Int.not_lt.mp fun k:frT w sc < 0=>absurd this (Int.not_le.mpr (Int.mul_neg_of_neg_of_pos k hsc))
  omega
def sp_ends (K:PySem.W.Frag) (ns:List Int):Sp:=fun vs H Q E=>match vs with
  | [.ref L,.str an,.int sc,.int n,e]=>∃ (gs:List Gm) (nm:List Str) (z:Q2),BkF K H L gs nm∧(1 ≤ sc∧sc ≤ 100000)∧(0 ≤ n∧n ≤ 100)∧EdAt 17 H e z∧Rf K gs an H E∧(AllR gs→an ∈ plr gs→∀ D ps H',Same H H'→H D = none→H' D = some (.lst ps)→ps.length = (plr gs).length→Q (.ref D) H')
  | _ => False
theorem sc_ends:FnScope ["games","anchor","scale","rounds","edge","lower","upper","lows","highs"] ["games","anchor","scale","rounds","edge"] (defScope s_ends):=⟨rfl,rfl,rfl,by decide +kernel,rfl,by decide +kernel,by decide +kernel⟩
theorem ok_ends (d:DfnN K mg "ends" s_ends ["games","anchor","scale","rounds","edge"]) (er:Errs K mg c_LadderError c_NoBook c_NoFit c_NoGame c_NoNumber c_NoPlayer c_NoRow c_NoStretch c_NoTable c_NoTree c_NoWorth) (n_zip:mg "zip" = none)  (c_stretch:Cal P w K mg base "stretch" ["low","high"] 2 (sp_stretch K ns)) (c_fraction:Cal P w K mg base "fraction" ["top","bottom"] 2 (sp_fraction K ns)) (c_uppers:CalN P w K mg base "uppers" ["games","anchor","scale","rounds","edge"] 9 (sp_uppers K ns)) (c_lowers:CalN P w K mg base "lowers" ["games","anchor","scale","rounds","edge"] 9 (sp_lowers K ns)):CalN P w K mg base "ends" ["games","anchor","scale","rounds","edge"] 10 (sp_ends K ns):=by
  refine d.calX (k:=9) sc_ends (fun vs H Q E h=>?_) (fun f cdv A outer s H vs Q E hr h=>?_)
  · match vs, h with
    | [.ref L, .str an, .int sc, .int n, e], _ => rfl
  · match vs, h with
    | [.ref L, .str an, .int sc, .int n, e], hq0 =>
      obtain ⟨gs, nm, z, hB, hsc, hn, he, rf, k⟩ := hq0
      refine ⟨_,(@pss_cons _ _ _ _ _ (@ps_set _ _ (5) _ _ _ _ sc_ends.nd rfl (by first | exact Or.inl rfl | exact Or.inr rfl) (@e_callX _ _ _ _ _ _ _ _ _ _ _ _ _ _ _ _ _ _ _ _ _ _ _ _ _ c_lowers.cal hr (by decide) (by rfl) (@pa_cons _ _ _ _ _ (dv 0) (@pa_cons _ _ _ _ _ (dv 1) (@pa_cons _ _ _ _ _ (dv 2) (@pa_cons _ _ _ _ _ (dv 3) (@pa_cons _ _ _ _ _ (dv 4) pa_nil (by rfl)) (by rfl)) (by rfl)) (by rfl)) (by rfl)) (by decide) (by rfl) (by rfl)) (by rfl) (by first | exact .inl rfl | exact .inr rfl | assumption)) (@pss_cons _ _ _ _ _ (@ps_set _ _ (6) _ _ _ _ sc_ends.nd rfl (by first | exact Or.inl rfl | exact Or.inr rfl) (@e_callX _ _ _ _ _ _ _ _ _ _ _ _ _ _ _ _ _ _ _ _ _ _ _ _ _ c_uppers.cal hr (by decide) (by rfl) (@pa_cons _ _ _ _ _ (dv 0) (@pa_cons _ _ _ _ _ (dv 1) (@pa_cons _ _ _ _ _ (dv 2) (@pa_cons _ _ _ _ _ (dv 3) (@pa_cons _ _ _ _ _ (dv 4) pa_nil (by rfl)) (by rfl)) (by rfl)) (by rfl)) (by rfl)) (by decide) (by rfl) (by rfl)) (by rfl) (by first | exact .inl rfl | exact .inr rfl | assumption)) (@pss_cons _ _ _ _ _ (@ps_compN _ _ _ _ _ _ _ _ (7) _ _ _ _ _ ["number"] ["lower","scale"] [5,2] rfl (@pi_list _ _ _ _ (@pe_ix _ _ _ _ _ _ _ i_tup (dv 5) pe_int (fun _ _=>rfl))) (fun C s H fp=>(@pg_name _ _ (0) _ (show List.Nodup [("number":Str),("lower":Str),("scale":Str)] by decide +kernel) rfl (by first | exact Or.inl rfl | exact Or.inr rfl) (by first | exact .inl rfl | exact .inr rfl | assumption))) (fun C s H fp=>(@e_if _ _ _ _ _ _ _ _ (@t_val _ _ _ (@pe_ix _ _ _ _ _ _ _ i_tup (dv 1) pe_int (fun _ _=>rfl)) (by intro _; rfl)) (@e_call _ _ _ _ _ _ _ _ _ _ _ c_fraction hr (by decide) (by rfl) (@pa_cons _ _ _ _ _ (dv 0) (@pa_cons _ _ _ _ _ (dv 2) pa_nil (by rfl)) (by rfl)) (by decide) (by rfl) (by rfl)) (@e_tup _ _ _ _ _ (@pa_cons _ _ _ _ _ pe_int (@pa_cons _ _ _ _ _ pe_int pa_nil (by rfl)) (by rfl))))) rfl rfl (by decide +kernel) (by decide +kernel) (by rfl) ⟨rfl,⟨rfl,True.intro⟩⟩ ⟨⟨rfl,rfl,rfl,rfl⟩,⟨⟨rfl,rfl,rfl,rfl⟩,True.intro⟩⟩ sc_ends.nd rfl rfl (by intro _; rfl) (by rfl)) (@pss_cons _ _ _ _ _ (@ps_compN _ _ _ _ _ _ _ _ (8) _ _ _ _ _ ["number"] ["upper","scale"] [6,2] rfl (@pi_list _ _ _ _ (@pe_ix _ _ _ _ _ _ _ i_tup (dv 6) pe_int (fun _ _=>rfl))) (fun C s H fp=>(@pg_name _ _ (0) _ (show List.Nodup [("number":Str),("upper":Str),("scale":Str)] by decide +kernel) rfl (by first | exact Or.inl rfl | exact Or.inr rfl) (by first | exact .inl rfl | exact .inr rfl | assumption))) (fun C s H fp=>(@e_if _ _ _ _ _ _ _ _ (@t_val _ _ _ (@pe_ix _ _ _ _ _ _ _ i_tup (dv 1) pe_int (fun _ _=>rfl)) (by intro _; rfl)) (@e_call _ _ _ _ _ _ _ _ _ _ _ c_fraction hr (by decide) (by rfl) (@pa_cons _ _ _ _ _ (dv 0) (@pa_cons _ _ _ _ _ (dv 2) pa_nil (by rfl)) (by rfl)) (by decide) (by rfl) (by rfl)) pe_non)) rfl rfl (by decide +kernel) (by decide +kernel) (by rfl) ⟨rfl,⟨rfl,True.intro⟩⟩ ⟨⟨rfl,rfl,rfl,rfl⟩,⟨⟨rfl,rfl,rfl,rfl⟩,True.intro⟩⟩ sc_ends.nd rfl rfl (by intro _; rfl) (by rfl)) (@pss_one _ _ _ (@ps_ret _ _ _ _ (@e_compN _ _ _ _ _ _ _ _ _ _ ["low","high"] [] [] rfl (@pi_zip _ true true _ _ _ _ _ _ _ _ (by rfl) n_zip (@pa_cons _ _ _ _ _ (dv 7) (@pa_cons _ _ _ _ _ (dv 8) pa_nil (by rfl)) (by rfl)) (by rfl) (by rfl)) (fun C s H fp=>(show PG _ _ (gTup K 2 _) from pg_tup rfl (pgs_cons (pg_name (i:=0) (show List.Nodup [("low":Str),("high":Str)] by decide +kernel) rfl (by first | exact Or.inl rfl | exact Or.inr rfl)) (pgs_cons (pg_name (i:=1) (show List.Nodup [("low":Str),("high":Str)] by decide +kernel) rfl (by first | exact Or.inl rfl | exact Or.inr rfl)) pgs_nil)))) (fun C s H fp=>(@e_call _ _ _ _ _ _ _ _ _ _ _ c_stretch hr (by decide) (by rfl) (@pa_cons _ _ _ _ _ (dv 0) (@pa_cons _ _ _ _ _ (dv 1) pa_nil (by rfl)) (by rfl)) (by decide) (by rfl) (by rfl))) rfl rfl (by decide +kernel) (by decide +kernel) (by rfl) True.intro True.intro (by intro _; rfl)))))))),?_⟩
      have pl60:(plr gs).length ≤ 60:=Nat.le_trans (plr_len hB.2.1.mem) hB.2.2.1
      refine ⟨gs,nm,z,hB,hsc,hn,he,rf,fun ha han T1 U1 H1 s1 _ eT1 eU1=>?_⟩
      have k := k ha han
      have f1:Num (plr gs).length 0 (fstN gs an sc 100000):=fst_num hsc ⟨by decide,by decide⟩
      have f2:Num (plr gs).length 1 (fstN gs an sc 1):=fst_num1 hsc ⟨by decide,by decide⟩
      have nU:Num (plr gs).length 0 (rnds true gs z an (fstN gs an sc 100000) n.toNat):=rnds_num (lo:=true) (by decide) f1 _
      have nW:Num (plr gs).length 1 (rnds false gs z an (fstN gs an sc 1) n.toNat):=rnds_num (lo:=false) (by decide) f2 _
      have aU:(wOf (plr gs) (nq (rnds true gs z an (fstN gs an sc 100000) n.toNat)) an).1 = sc:=(rnds_an f1 _).trans (fst_an han)
      have aW:(wOf (plr gs) (nq (rnds false gs z an (fstN gs an sc 1) n.toNat)) an).1 = sc:=(rnds_an (f2.mono (by decide)) _).trans (fst_an han)
      have zb := he.bd (by decide)
      have bsc:Bd 17 sc:=bd_of (b:=100000) (by omega) (by omega) (bd_lit rfl)
      have sc0 : sc ≠ 0 := by omega
      have inv:=ends_le (us:=rnds true gs z an (fstN gs an sc 100000) n.toNat) (ws:=rnds false gs z an (fstN gs an sc 1) n.toNat) zb.2.2.1 zb.2.2.2 ha han (show 0 < sc by omega) nU nW aU aW
      refine ⟨gs,nm,z,⟨hB.1.up s1,hB.2⟩,hsc,hn,he.up s1,rf.up s1,fun _ _ T2 U2 H2 s2 _ eT2 eU2=>?_⟩
      generalize rnds true gs z an (fstN gs an sc 100000) n.toNat = us at *
      generalize rnds false gs z an (fstN gs an sc 1) n.toNat = ws at *
      generalize stD gs z an us = b1 at *
      generalize stU gs z an ws = b2 at *
      have eT1 := s2 _ _ eT1
      have eU1 := s2 _ _ eU1
      have s02 := s1.trans s2
      have lu : us.length ≤ 60 := by rw [nU.1]; exact pl60
      have lw : ws.length ≤ 60 := by rw [nW.1]; exact pl60
      refine ⟨_,eT1,U1,rfl,⟨_,SqL.of eU1⟩,comp_abs (fun _ v (u:Int)=>v = V.int u) (fun _ _ _ _ _ h=>h) (fun H u y=>∃ p,y = V.ref p∧Fq 17 H p (lwQ b1 sc u).1 (lwQ b1 sc u).2) (fun u y H H' kt ⟨p,e,f⟩=>⟨p,e,fq_kt kt f⟩) (by rw [List.length_map]; omega) (SqL.of eU1) (all2_int us) ?_ ?_⟩
      · intro v u H3 hM hu s3 P hP
        subst hM
        have hu := nU.2 u hu
        have bu:Bd 17 u:=bd_of (b:=100000) (by omega) (by omega) (bd_lit rfl)
        refine ⟨rfl,_,s3 _ _ eT1,⟨fun h=>?_,fun h=>?_⟩⟩
        · refine ⟨⟨sc0,bsc.mono (by decide)⟩,fun p H4 s4 f4=>hP _ _ s4 ⟨p,rfl,?_⟩⟩
          unfold lwQ
          rw [if_pos h]
          exact f4.fq sc0 bu bsc
        · refine fun p H4 s4 e4 => hP _ _ s4 ⟨p, rfl, ?_⟩
          unfold lwQ
          rw [if_neg (by rw [h]; decide)]
          exact ⟨e4, by decide, bd_lit rfl, bd_lit rfl⟩
      intro D3 H3 xs s3 _ e3 a3
      refine ⟨_,s3 _ _ eT2,U2,rfl,⟨_,SqL.of (s3 _ _ eU2)⟩,comp_abs (fun _ v (u:Int)=>v = V.int u) (fun _ _ _ _ _ h=>h) (fun H u y=>(b2 = false∧y = V.non) ∨ (b2 = true∧∃ p,y = V.ref p∧Fq 17 H p (frT u sc) (frB u sc))) (fun u y H H' kt h=>h.imp id fun ⟨b,p,e,f⟩=>⟨b,p,e,fq_kt kt f⟩) (by rw [List.length_map]; omega) (SqL.of (s3 _ _ eU2)) (all2_int ws) ?_ ?_⟩
      · intro v u H4 hM hu s4 P hP
        subst hM
        have hu := nW.2 u hu
        have bu:Bd 17 u:=bd_of (b:=100000) (by omega) (by omega) (bd_lit rfl)
        refine ⟨rfl,_,(s3.trans s4) _ _ eT2,⟨fun h=>?_,fun h=>?_⟩⟩
        · exact ⟨⟨sc0,bsc.mono (by decide)⟩,fun p H5 s5 f5=>hP _ _ s5 (.inr ⟨h,p,rfl,f5.fq sc0 bu bsc⟩)⟩
        · exact hP _ _ (Same.refl _) (.inl ⟨h, rfl⟩)
      intro D4 H4 ys s4 _ e4 a4
      have e3 := s4 _ _ e3
      have l3 := a3.len
      have l4 := a4.len
      have lz:(us.zip ws).length = us.length:=by rw [List.length_zip,nU.1,nW.1]; omega
      have nUW : us.length = ws.length := by rw [nU.1, nW.1]
      refine ⟨⟨_,SqL.of e3⟩,⟨_,SqL.of e4⟩,comp_zip (ms:=us.zip ws) (fun H x y m=>(∃ p,x = V.ref p∧Fq 17 H p (lwQ b1 sc m.1).1 (lwQ b1 sc m.1).2)∧((b2 = false∧y = V.non) ∨ (b2 = true∧∃ p,y = V.ref p∧Fq 17 H p (frT m.2 sc) (frB m.2 sc)))) (fun x y m H H' kt h=>⟨let ⟨p,e,f⟩:=h.1; ⟨p,e,fq_kt kt f⟩,h.2.imp id fun ⟨b,p,e,f⟩=>⟨b,p,e,fq_kt kt f⟩⟩) (fun H m y=>StAt H y (lwQ b1 sc m.1,hgQ b2 sc m.2)) (fun m y H H' kt h=>st_up y _ H H' kt h) (by omega) (SqL.of e3) (SqL.of e4) (by omega) (by omega) ?_ ?_ ?_⟩
      · intro i x y m hx hy hm
        have hi := (List.getElem?_eq_some_iff.mp hm).1
        rw [List.getElem?_zip_eq_some] at hm
        obtain ⟨u, eu, pu⟩ := all2_get (a2_swap a3) hx
        obtain ⟨w, ew, pw⟩ := all2_get (a2_swap a4) hy
        rw [hm.1] at eu
        rw [hm.2] at ew
        cases eu
        cases ew
        obtain ⟨p, e, f⟩ := pu
        exact ⟨⟨p, e, fq_kt (kt_of s4) f⟩, pw⟩
      · intro x y m t H5 hM hm s5 et P hP
        obtain ⟨⟨p, rfl, f⟩, hy⟩ := hM
        have hle:b1 = true→b2 = true→m.1 ≤ m.2:=fun h1 h2=>by
          obtain ⟨i, hi⟩ := List.getElem?_of_mem hm
          rw [List.getElem?_zip_eq_some] at hi
          exact len_lel (inv h1 h2) nU.1 nW.1 i _ _ hi.1 hi.2
        have hm2 : 0 ≤ m.2 := by
          have := nW.2 m.2 (List.of_mem_zip hm).2
          omega
        rcases hy with ⟨hb, rfl⟩ | ⟨hb, q, rfl, fq⟩
        · refine ⟨t,_,rfl,SqT.of et,rfl,_,_,rfl,_,_,rfl,rfl,rfl,fun r H6 s6 e6=>hP _ _ s6 ⟨r,rfl,⟨p,.non,e6,f.up s6,.inl ⟨?_,rfl⟩⟩⟩⟩
          unfold hgQ
          rw [if_neg (by rw [hb]; decide)]
        · refine ⟨t,_,rfl,SqT.of et,rfl,_,_,rfl,_,_,rfl,rfl,rfl,_,(frT m.2 sc,frB m.2 sc),⟨f.mono (by decide),fq.mono (by decide),?_⟩,fun r H6 s6 e6=>hP _ _ s6 ⟨r,rfl,⟨p,.ref q,e6,f.up s6,.inr ⟨q,(frT m.2 sc,frB m.2 sc),?_,rfl,fq.up s6⟩⟩⟩⟩
          · unfold lwQ
            split
            · exact fr_le (by omega) (hle ‹_› hb)
            · exact fr_nn (by omega) hm2
          · unfold hgQ
            rw [if_pos hb]
      intro D5 H5 ps s5 n5 e5 a5
      exact k D5 ps H5 (s02.trans (s3.trans (s4.trans s5))) (none_back (s02.trans (s3.trans s4)) n5) e5 (by rw [← a5.len,lz,nU.1])
theorem mem_plr' {gs:List Gm} {x:Str}:x ∈ plr gs ↔ ∃ g ∈ gs,g.a = x ∨ g.b = x:=by
  unfold plr
  rw [mem_srt, List.mem_append, List.mem_map, List.mem_map]
  constructor
  · rintro (⟨g, h, e⟩ | ⟨g, h, e⟩)
    · exact ⟨g, h, .inl e⟩
    · exact ⟨g, h, .inr e⟩
  · rintro ⟨g, h, e | e⟩
    · exact .inl ⟨g, h, e⟩
    · exact .inr ⟨g, h, e⟩
theorem in_two {x a b:Str}:inV (.str x) [.str a,.str b] = decide (a = x ∨ b = x):=by
  unfold inV
  rw [List.any_cons,List.any_cons,List.any_nil,Bool.or_false]
  have e:∀ c:Str,(c == x) = decide (c = x):=fun c=>by
    by_cases h : c = x
    · subst h; simp
    · rw [decide_eq_false h]; exact beq_eq_false_iff_ne.mpr h
  show ((a == x) || (b == x)) = _
  rw [e, e]
  by_cases h1:a = x <;> by_cases h2:b = x <;> simp [h1,h2]
theorem len_filter {gs:List Gm} {x:Str}:(0:Int) < ((gs.filter fun g=>decide (g.a = x ∨ g.b = x)).length:Int) ↔ ∃ g ∈ gs,g.a = x ∨ g.b = x:=by
  constructor
  · intro h
    obtain ⟨g,hg⟩:=List.exists_mem_of_length_pos (l:=gs.filter fun g=>decide (g.a = x ∨ g.b = x)) (by omega)
    rw [List.mem_filter, decide_eq_true_iff] at hg
    exact ⟨g, hg.1, hg.2⟩
  · rintro ⟨g, hg, e⟩
    have:g ∈ gs.filter fun g=>decide (g.a = x ∨ g.b = x):=List.mem_filter.mpr ⟨hg,decide_eq_true e⟩
    have := List.length_pos_of_mem this
    omega
theorem inc_filter {f:Str→Bool}:∀ {l:List Str},Inc l→Inc (l.filter f)
  | l, h => by
    unfold Inc at h ⊢
    exact h.filter f
theorem there_plr {nm:List Str} {gs:List Gm} (hi:Inc nm) (bl:BL nm gs):nm.filter (fun x=>decide (∃ g ∈ gs,g.a = x ∨ g.b = x)) = plr gs:=inc_ext (inc_filter hi) (inc_srt _) fun x=>by
  show _ ↔ x ∈ plr gs
  rw [List.mem_filter, decide_eq_true_iff, mem_plr']
  constructor
  · exact fun h => h.2
  · rintro ⟨g, hg, e⟩
    refine ⟨?_, g, hg, e⟩
    rcases e with rfl | rfl
    · exact (bl.mem g hg).1
    · exact (bl.mem g hg).2
theorem SdOk.snoc {gs:List Gm} {g:Gm} (h:SdOk gs) (h1:-1 ≤ g.s∧g.s ≤ 1):SdOk (gs ++ [g]):=fun x hx=>by
  rcases List.mem_append.mp hx with hx | hx
  · exact h x hx
  · rw [List.mem_singleton] at hx
    subst hx
    exact h1
theorem nd_at {nm:List Str} (h:nm.Nodup) {i j:Int} (i0:0 ≤ i) (i1:i < nm.length) (j0:0 ≤ j) (j1:j < nm.length) (ne:i ≠ j):∃ x y,atI (nm.map V.str) i = some (.str x)∧atI (nm.map V.str) j = some (.str y)∧x ∈ nm∧y ∈ nm∧x ≠ y:=by
  obtain ⟨a, rfl⟩ := Int.eq_ofNat_of_zero_le i0
  obtain ⟨b, rfl⟩ := Int.eq_ofNat_of_zero_le j0
  have ha : a < nm.length := by omega
  have hb : b < nm.length := by omega
  refine ⟨nm[a],nm[b],atI_nat ?_,atI_nat ?_,List.getElem_mem ha,List.getElem_mem hb,fun e=>ne ?_⟩
  · rw [List.getElem?_map, List.getElem?_eq_getElem ha]
    rfl
  · rw [List.getElem?_map, List.getElem?_eq_getElem hb]
    rfl
  · rw [(List.getElem_inj h).mp e]
theorem more_game {H Hx H2:Hp} {D T:Addr} {vs:List V} {gs:List Gm} {g:Gm} {nm:List Str} (hD:H D = none) (s1:Same H Hx) (e1:Hx D = some (.lst vs)) (a1:All2 (GmAt Hx) vs gs) (bl:BL nm gs) (s2:Same Hx H2) (e2:H2 T = some (.tup [.int g.d,.str g.a,.str g.b,.int g.h,.int g.s])) (gg:(g.a ∈ nm∧g.b ∈ nm)∧g.a ≠ g.b∧0 ≤ g.h∧g.h ≤ 2) :
    Same H (upd H2 D (.lst (vs ++ [.ref T])))∧BkL (upd H2 D (.lst (vs ++ [.ref T]))) D (gs ++ [g])∧BL nm (gs ++ [g]) :=
  ⟨same_app' (s1.trans s2) hD,bkl_app (H0:=H) (s2 _ _ e1) (a1.imp fun v g r=>gm_up v g _ _ (kt_of s2) r) e2,bl.snoc gg.1 gg.2.1 gg.2.2⟩
def sp_l_games (K:PySem.W.Frag) (ns:List Int):Sp:=fun vs H Q _=>match vs with
  | [.ref a,.ref N]=>∃ nm,(SqL K H a (ns.map V.int)∧SqL K H N (nm.map V.str)∧nm.Nodup∧2 ≤ nm.length∧nm.length ≤ 8∧ns.length ≤ 63)∧∀ D gs H',Same H H'→H D = none→BkL H' D gs→BL nm gs→SdOk gs→gs.length ≤ 14→Q (.ref D) H'
  | _ => False
theorem sc_l_games:FnScope ["_law_script","_law_names","_law_games_here","_law_k","_law_xs","_law_one","_law_other"] ["_law_script","_law_names"] (defScope s_l_games):=⟨rfl,rfl,rfl,by decide +kernel,rfl,by decide +kernel,by decide +kernel⟩
theorem ok_l_games (d:Dfn K mg "_law_games" s_l_games ["_law_script","_law_names"]) (er:Errs K mg c_LadderError c_NoBook c_NoFit c_NoGame c_NoNumber c_NoPlayer c_NoRow c_NoStretch c_NoTable c_NoTree c_NoWorth) (n_range:mg "range" = none) (n_min:mg "min" = none) (n_len:mg "len" = none)  (c_l_stream:Cal P w K mg base "_law_stream" ["_law_cell","_law_salt","_law_many"] 1 (sp_l_stream K ns)):Cal P w K mg base "_law_games" ["_law_script","_law_names"] 2 (sp_l_games K ns):=by
  refine d.cal (k:=1) sc_l_games (fun vs H Q E h=>?_) (fun f cdv A outer s H vs Q E hr h=>?_)
  · match vs, h with
    | [.ref a, .ref N], _ => rfl
  · match vs, h with
    | [.ref a, .ref N], hq0 =>
      obtain ⟨nm, ⟨hS, hN, nd, n2, n8', n63⟩, q⟩ := hq0
      refine ⟨_,(@pss_cons _ _ _ _ _ (@ps_set _ _ (2) _ _ _ _ sc_l_games.nd rfl (by first | exact Or.inl rfl | exact Or.inr rfl) (@pe_lst _ _ _ _ pa_nil) (by rfl) (by first | exact .inl rfl | exact .inr rfl | assumption)) (@pss_cons _ _ _ _ _ (@ps_for _ _ _ _ _ _ _ _ PassesOwn.never rfl (@pi_range2 _ _ _ _ _ _ _ (by rfl) n_range (@pa_cons _ _ _ _ _ pe_int (@pa_cons _ _ _ _ _ (@pe_callB _ _ _ _ _ _ _ _ _ (@call_min2 _ rfl) (by rfl) n_min (by decide +kernel) (@pa_cons _ _ _ _ _ (@pe_callB _ _ _ _ _ _ _ _ _ c_len (by rfl) n_len (by decide +kernel) (@pa_cons _ _ _ _ _ (dv 0) pa_nil (by rfl)) (by decide) (by decide) (by rfl) (by rfl)) (@pa_cons _ _ _ _ _ pe_int pa_nil (by rfl)) (by rfl)) (by decide) (by decide) (by rfl) (by rfl)) pa_nil (by rfl)) (by rfl)) (by rfl) (by rfl)) (@pg_name _ _ (3) _ sc_l_games.nd rfl (by first | exact Or.inl rfl | exact Or.inr rfl) (by first | exact .inl rfl | exact .inr rfl | assumption)) (@pss_cons _ _ _ _ _ (@ps_set _ _ (4) _ _ _ _ sc_l_games.nd rfl (by first | exact Or.inl rfl | exact Or.inr rfl) (@e_call _ _ _ _ _ _ _ _ _ _ _ c_l_stream hr (by decide) (by rfl) (@pa_cons _ _ _ _ _ (@pe_ix _ _ _ _ _ _ _ i_lst (dv 0) (dv 3) (fun _ _=>rfl)) (@pa_cons _ _ _ _ _ (dv 3) (@pa_cons _ _ _ _ _ pe_int pa_nil (by rfl)) (by rfl)) (by rfl)) (by decide) (by rfl) (by rfl)) (by rfl) (by first | exact .inl rfl | exact .inr rfl | assumption)) (@pss_cons _ _ _ _ _ (@ps_set _ _ (5) _ _ _ _ sc_l_games.nd rfl (by first | exact Or.inl rfl | exact Or.inr rfl) (@pe_op _ _ _ _ _ _ _ _ o_mod (@pe_ix _ _ _ _ _ _ _ i_lst (dv 4) pe_int (fun _ _=>rfl)) (@pe_callB _ _ _ _ _ _ _ _ _ c_len (by rfl) n_len (by decide +kernel) (@pa_cons _ _ _ _ _ (dv 1) pa_nil (by rfl)) (by decide) (by decide) (by rfl) (by rfl))) (by rfl) (by first | exact .inl rfl | exact .inr rfl | assumption)) (@pss_cons _ _ _ _ _ (@ps_set _ _ (6) _ _ _ _ sc_l_games.nd rfl (by first | exact Or.inl rfl | exact Or.inr rfl) (@pe_op _ _ _ _ _ _ _ _ o_mod (@pe_op _ _ _ _ _ _ _ _ o_add (@pe_op _ _ _ _ _ _ _ _ o_add (dv 5) pe_int) (@pe_op _ _ _ _ _ _ _ _ o_mod (@pe_ix _ _ _ _ _ _ _ i_lst (dv 4) pe_int (fun _ _=>rfl)) (@pe_op _ _ _ _ _ _ _ _ o_sub (@pe_callB _ _ _ _ _ _ _ _ _ c_len (by rfl) n_len (by decide +kernel) (@pa_cons _ _ _ _ _ (dv 1) pa_nil (by rfl)) (by decide) (by decide) (by rfl) (by rfl)) pe_int))) (@pe_callB _ _ _ _ _ _ _ _ _ c_len (by rfl) n_len (by decide +kernel) (@pa_cons _ _ _ _ _ (dv 1) pa_nil (by rfl)) (by decide) (by decide) (by rfl) (by rfl))) (by rfl) (by first | exact .inl rfl | exact .inr rfl | assumption)) (@pss_one _ _ _ (@ps_expr _ _ _ _ (@pe_bm _ _ _ _ _ _ _ _ _ _ _ _ PySem.F.plainAttrs_list PySem.F.slot_list_append PySem.F.type_list_append mt_append (dv 2) (@pa_cons _ _ _ _ _ (@e_tup _ _ _ _ _ (@pa_cons _ _ _ _ _ (@pe_op _ _ _ _ _ _ _ _ o_mod (@pe_ix _ _ _ _ _ _ _ i_lst (dv 4) pe_int (fun _ _=>rfl)) pe_int) (@pa_cons _ _ _ _ _ (@pe_ix _ _ _ _ _ _ _ i_lst (dv 1) (dv 5) (fun _ _=>rfl)) (@pa_cons _ _ _ _ _ (@pe_ix _ _ _ _ _ _ _ i_lst (dv 1) (dv 6) (fun _ _=>rfl)) (@pa_cons _ _ _ _ _ (@pe_op _ _ _ _ _ _ _ _ o_mod (@pe_ix _ _ _ _ _ _ _ i_lst (dv 4) pe_int (fun _ _=>rfl)) pe_int) (@pa_cons _ _ _ _ _ (@pe_op _ _ _ _ _ _ _ _ o_sub (@pe_op _ _ _ _ _ _ _ _ o_mod (@pe_op _ _ _ _ _ _ _ _ o_div (@pe_ix _ _ _ _ _ _ _ i_lst (dv 4) pe_int (fun _ _=>rfl)) pe_int) pe_int) pe_int) pa_nil (by rfl)) (by rfl)) (by rfl)) (by rfl)) (by rfl))) pa_nil (by rfl)) (by rfl) (by rfl) (by rfl) (by rfl) (by rfl)) (by rfl)))))) (by intro _; rfl)) (@pss_one _ _ _ (@ps_ret _ _ _ _ (dv 2))))),?_⟩
      refine ⟨Nat.zero_le _, fun D hD => ?_⟩
      have s0 : Same H (upd H D (.lst [])) := same_upd hD
      have e0:upd H D (.lst []) D = some (.lst []):=upd_same
      generalize upd H D (.lst []) = H0 at s0 e0
      have hm : (0 : Int) < nm.length := by omega
      have hm1 : (0 : Int) < nm.length - 1 := by omega
      refine ⟨_, .inl (s0.seq hS), _, _, rfl, _, _, rfl, ?_⟩
      rw [List.length_map]
      obtain ⟨m,em,m1,m2⟩:∃ m:Int,m = (if (18:Int) < (ns.length:Int) then (18:Int) else (ns.length:Int))∧m ≤ ns.length∧m ≤ 18:=⟨_,rfl,by split <;> omega,by split <;> omega⟩
      rw [← em]
      have m0 : 0 ≤ m := by rw [em]; split <;> omega
      refine ⟨⟨by decide,by decide,by omega,by omega⟩,for_range (lo:=4) (n:=(m - 4).toNat) (fun i σ Hz=>∃ (gs:List Gm) (o3 o4 o5 o6:Option V),σ = [some (.ref a),some (.ref N),some (.ref D),o3,o4,o5,o6]∧Same H Hz∧BkL Hz D gs∧BL nm gs∧SdOk gs∧gs.length = i) ⟨[],_,_,_,_,rfl,s0,⟨[],e0,.nil⟩,BL.nil,(fun _ h=>absurd h (by simp)),rfl⟩ ?_ ?_⟩
      · rintro i σ H' hi ⟨gs,o3,o4,o5,o6,rfl,s1,⟨vs,e1,a1⟩,bl,sd,hl⟩
        have hlt : 4 + i < ns.length := by omega
        obtain ⟨c,hc⟩:∃ c,(ns.map V.int)[4 + i]? = some (.int c):=⟨ns[4 + i],by rw [List.getElem?_map,List.getElem?_eq_getElem hlt]; rfl⟩
        have hk0:(4:Int) + (i:Int) = ((4 + i:Nat):Int):=by omega
        refine ⟨_,.int c,s1.seq hS,by rw [hk0]; exact atI_nat hc,⟨⟨⟨by omega,by omega⟩,by decide,by decide⟩,fun X xs H3 s3 n3 e3 lx bx=>?_⟩⟩
        obtain ⟨x0,h0,a0,_⟩:=bx.g 0 (by decide) (by omega)
        obtain ⟨x1,h1,a1',_⟩:=bx.g 1 (by decide) (by omega)
        obtain ⟨x2,h2,a2,_⟩:=bx.g 2 (by decide) (by omega)
        obtain ⟨x3,h3,a3,_⟩:=bx.g 3 (by decide) (by omega)
        have hN3 := (s1.trans s3).seq hN
        have ln:((nm.map V.str).length:Int) = nm.length:=by rw [List.length_map]
        refine ⟨_,_,SqL.of e3,h0,_,.inl hN3,(by rw [ln]; exact hm),?_⟩
        refine ⟨_,_,SqL.of e3,h1,_,.inl hN3,(by rw [ln]; exact hm1),_,.inl hN3,(by rw [ln]; exact hm),?_⟩
        rw [ln]
        have c0:=Int.emod_nonneg x0 (show (nm.length:Int) ≠ 0 by omega)
        have c1 := Int.emod_lt_of_pos x0 hm
        have r0:=Int.emod_nonneg x1 (show (nm.length:Int) - 1 ≠ 0 by omega)
        have r1 := Int.emod_lt_of_pos x1 hm1
        obtain ⟨z0,z1,z2⟩:=nxt_ne (a:=x0 % nm.length) (d:=1 + x1 % (nm.length - 1)) (m:=nm.length) c0 c1 (by omega) (by omega)
        rw [← Int.add_assoc] at z0 z1 z2
        obtain ⟨x,y,hx,hy,mx,my,nxy⟩:=nd_at nd (i:=x0 % nm.length) (j:=(x0 % nm.length + 1 + x1 % (nm.length - 1)) % nm.length) c0 c1 z0 z1 (Ne.symm z2)
        have h30:=Int.emod_nonneg x3 (show (3:Int) ≠ 0 by decide)
        have h31:=Int.emod_lt_of_pos x3 (show (0:Int) < 3 by decide)
        have h40:=Int.emod_nonneg (x3 / 3) (show (3:Int) ≠ 0 by decide)
        have h41:=Int.emod_lt_of_pos (x3 / 3) (show (0:Int) < 3 by decide)
        have a1:All2 (GmAt H3) vs gs:=a1.imp fun v g r=>gm_up v g _ _ (kt_of s3) r
        have e1 := s3 _ _ e1
        refine ⟨.inl ⟨rfl,_,SqL.of e1⟩,_,_,SqL.of e3,h2,(by show (0:Int) < 10000; decide),_,_,hN3,hx,_,_,hN3,hy,_,_,SqL.of e3,h3,(by show (0:Int) < 3; decide),_,_,SqL.of e3,h3,⟨by decide,bd_lit rfl⟩,(by show (0:Int) < 3; decide),fun T H4 s4 e4=>?_⟩
        obtain ⟨q1,q2,q3⟩:=more_game (g:=⟨x2 % 10000,x,y,x3 % 3,x3 / 3 % 3 - 1⟩) hD (s1.trans s3) e1 a1 bl s4 e4 ⟨⟨mx,my⟩,nxy,h30,by show x3 % 3 ≤ 2; omega⟩
        refine ⟨D,vs,_,rfl,rfl,s4 _ _ e1,?_,_,_,_,_,_,rfl,q1,q2,q3,sd.snoc ⟨by show -1 ≤ x3 / 3 % 3 - 1; omega,by show x3 / 3 % 3 - 1 ≤ 1; omega⟩,?_⟩
        · rw [a1.len, hl]
          exact Nat.lt_of_lt_of_le (show i < 100 by omega) (by decide)
        · rw [List.length_append, hl]
          rfl
      · rintro σ H' ⟨gs,o3,o4,o5,o6,rfl,s1,b1,bl,sd,hl⟩
        exact q D gs H' s1 hD b1 bl sd (by omega)
def sp_l_asked (K:PySem.W.Frag) (ns:List Int):Sp:=fun vs H Q E=>match vs with
  | [.int w,.ref L,.str an,.int sc,.int n]=>∃ (gs:List Gm) (nm:List Str),BkF K H L gs nm∧(1 ≤ sc∧sc ≤ 100000)∧(0 ≤ n∧n ≤ 100)∧Rf K gs an H E∧(AllR gs→an ∈ plr gs→∀ U xs H',Same H H'→H' U = some (.lst xs)→xs.length = (plr gs).length→Q (.ref U) H')
  | _ => False
theorem sc_l_asked:FnScope ["_law_word","_law_games_here","_law_anchor","_law_scale","_law_rounds"] ["_law_word","_law_games_here","_law_anchor","_law_scale","_law_rounds"] (defScope s_l_asked):=⟨rfl,rfl,rfl,by decide +kernel,rfl,by decide +kernel,by decide +kernel⟩
theorem ok_l_asked (d:Dfn K mg "_law_asked" s_l_asked ["_law_word","_law_games_here","_law_anchor","_law_scale","_law_rounds"]) (er:Errs K mg c_LadderError c_NoBook c_NoFit c_NoGame c_NoNumber c_NoPlayer c_NoRow c_NoStretch c_NoTable c_NoTree c_NoWorth)   (c_ends:CalN P w K mg base "ends" ["games","anchor","scale","rounds","edge"] 10 (sp_ends K ns)) (c_lowers:CalN P w K mg base "lowers" ["games","anchor","scale","rounds","edge"] 9 (sp_lowers K ns)) (c_uppers:CalN P w K mg base "uppers" ["games","anchor","scale","rounds","edge"] 9 (sp_uppers K ns)):Cal P w K mg base "_law_asked" ["_law_word","_law_games_here","_law_anchor","_law_scale","_law_rounds"] 11 (sp_l_asked K ns):=by
  refine d.calX (k:=10) sc_l_asked (fun vs H Q E h=>?_) (fun f cdv A outer s H vs Q E hr h=>?_)
  · match vs, h with
    | [.int w, .ref L, .str an, .int sc, .int n], _ => rfl
  · match vs, h with
    | [.int w, .ref L, .str an, .int sc, .int n], hq0 =>
      obtain ⟨gs, nm, hB, hsc, hn, rf, k⟩ := hq0
      refine ⟨_,(@pss_cons _ _ _ _ _ (@s_if _ _ _ _ _ _ _ _ (@t_cmp _ _ _ _ _ _ _ _ o_eq (dv 0) pe_int (@nomark _ _ (by decide) (by decide))) (@pss_one _ _ _ (@ps_ret _ _ _ _ (@pe_ix _ _ _ _ _ _ _ i_tup (@e_callNX _ _ _ _ _ _ _ _ _ _ _ _ _ _ _ _ _ _ _ _ _ _ _ _ _ c_uppers hr (by decide) (by rfl) (@pa_cons _ _ _ _ _ (dv 1) (@pa_cons _ _ _ _ _ (dv 2) (@pa_cons _ _ _ _ _ (dv 3) (@pa_cons _ _ _ _ _ (dv 4) pa_nil (by rfl)) (by rfl)) (by rfl)) (by rfl)) (by decide) (by rfl) (by rfl)) pe_int (fun _ _=>rfl)))) pss_nil) (@pss_cons _ _ _ _ _ (@s_if _ _ _ _ _ _ _ _ (@t_cmp _ _ _ _ _ _ _ _ o_eq (dv 0) pe_int (@nomark _ _ (by decide) (by decide))) (@pss_one _ _ _ (@ps_ret _ _ _ _ (@pe_ix _ _ _ _ _ _ _ i_tup (@e_callNX _ _ _ _ _ _ _ _ _ _ _ _ _ _ _ _ _ _ _ _ _ _ _ _ _ c_lowers hr (by decide) (by rfl) (@pa_cons _ _ _ _ _ (dv 1) (@pa_cons _ _ _ _ _ (dv 2) (@pa_cons _ _ _ _ _ (dv 3) (@pa_cons _ _ _ _ _ (dv 4) pa_nil (by rfl)) (by rfl)) (by rfl)) (by rfl)) (by decide) (by rfl) (by rfl)) pe_int (fun _ _=>rfl)))) pss_nil) (@pss_one _ _ _ (@ps_ret _ _ _ _ (@e_callNX _ _ _ _ _ _ _ _ _ _ _ _ _ _ _ _ _ _ _ _ _ _ _ _ _ c_ends hr (by decide) (by rfl) (@pa_cons _ _ _ _ _ (dv 1) (@pa_cons _ _ _ _ _ (dv 2) (@pa_cons _ _ _ _ _ (dv 3) (@pa_cons _ _ _ _ _ (dv 4) pa_nil (by rfl)) (by rfl)) (by rfl)) (by rfl)) (by decide) (by rfl) (by rfl)))))),?_⟩
      have ru:∀ (lo:Bool) (ot:Int),(1 ≤ ot∧ot ≤ 100000)→(rnds lo gs (1,1) an (fstN gs an sc ot) n.toNat).length = (plr gs).length:=fun lo ot ho=>(rnds_num (lo:=lo) (b:=0) (lst_nn lo) (fst_num hsc ho) _).1
      refine ⟨fun _=>?_,fun _=>⟨fun _=>?_,fun _=>?_⟩⟩
      · exact ⟨gs,nm,(1,1),hB,hsc,hn,.inl ⟨rfl,rfl⟩,rf,fun ha han T U H1 s1 _ eT eU=>⟨_,eT,k ha han U _ H1 s1 eU (by rw [List.length_map]; exact ru _ _ ⟨by decide,by decide⟩)⟩⟩
      · exact ⟨gs,nm,(1,1),hB,hsc,hn,.inl ⟨rfl,rfl⟩,rf,fun ha han T U H1 s1 _ eT eU=>⟨_,eT,k ha han U _ H1 s1 eU (by rw [List.length_map]; exact ru _ _ ⟨by decide,by decide⟩)⟩⟩
      · exact ⟨gs,nm,(1,1),hB,hsc,hn,.inl ⟨rfl,rfl⟩,rf,fun ha han D ps H1 s1 _ eD lD=>k ha han D ps H1 s1 eD lD⟩
inductive Out (K:PySem.W.Frag) (gs:List Gm) (an:Str) (H:Hp):V→V→Prop where
  | ok (U:Addr) (xs:List V):AllR gs→an ∈ plr gs→H U = some (.lst xs)→xs.length = (plr gs).length→Out K gs an H (.ref U) .non
  | np (p C:Addr):AllR gs→plr gs ≠ []→an ∉ plr gs→PySem.W.nsIn K mainGlobals "NoPlayer" = some (some (.ref C))→H p = some (.ext (ExcAt p C none))→Out K gs an H .non (.ref p)
  | nf (p C dx:Addr) (v:V) (d:PyData):VD gs d→PySem.W.nsIn K mainGlobals "NoFit" = some (some (.ref C))→H p = some (.ext (ExcAt p C (some dx)))→H dx = some (.xd [(Str.ofString "verdict",v)])→Rq H v d→Out K gs an H .non (.ref p)
theorem Out.up {K:PySem.W.Frag} {gs:List Gm} {an:Str} {H H':Hp} {x y:V} (s:Same H H') (h:Out K gs an H x y):Out K gs an H' x y:=by
  cases h with
  | ok U xs h1 h2 h3 h4=>exact .ok U xs h1 h2 (s _ _ h3) h4
  | np p C h1 h2 h3 h4 h5=>exact .np p C h1 h2 h3 h4 (s _ _ h5)
  | nf p C dx v d h1 h2 h3 h4 h5=>exact .nf p C dx v d h1 h2 (s _ _ h3) (s _ _ h4) (h5.up s)
def sp_l_told (K:PySem.W.Frag) (ns:List Int):Sp:=fun vs H Q _=>match vs with
  | [.int w,.ref L,.str an,.int sc,.int n,.bl b]=>∃ (gs:List Gm) (nm:List Str),BkF K H L gs nm∧(1 ≤ sc∧sc ≤ 100000)∧(0 ≤ n∧n ≤ 100)∧∀ T x y H',Same H H'→H' T = some (.tup [x,y])→Out K gs an H' x y→Q (.ref T) H'
  | _ => False
theorem sc_l_told:FnScope ["_law_word","_law_games_here","_law_anchor","_law_scale","_law_rounds","_law_base","_law_found","_law_caught","_law_error"] ["_law_word","_law_games_here","_law_anchor","_law_scale","_law_rounds","_law_base"] (defScope s_l_told):=⟨rfl,rfl,rfl,by decide +kernel,rfl,by decide +kernel,by decide +kernel⟩
theorem ok_l_told (d:Dfn K mg "_law_told" s_l_told ["_law_word","_law_games_here","_law_anchor","_law_scale","_law_rounds","_law_base"]) (er:Errs K mg c_LadderError c_NoBook c_NoFit c_NoGame c_NoNumber c_NoPlayer c_NoRow c_NoStretch c_NoTable c_NoTree c_NoWorth)   (c_l_asked:Cal P w K mg base "_law_asked" ["_law_word","_law_games_here","_law_anchor","_law_scale","_law_rounds"] 11 (sp_l_asked K ns)):Cal P w K mg base "_law_told" ["_law_word","_law_games_here","_law_anchor","_law_scale","_law_rounds","_law_base"] 12 (sp_l_told K ns):=by
  refine d.cal (k:=11) sc_l_told (fun vs H Q E h=>?_) (fun f cdv A outer s H vs Q E hr h=>?_)
  · match vs, h with
    | [.int w,.ref L,.str an,.int sc,.int n,.bl b],_=>rfl
  · match vs, h with
    | [.int w,.ref L,.str an,.int sc,.int n,.bl b],hq0 =>
      obtain ⟨gs, nm, hB, hsc, hn, k⟩ := hq0
      refine ⟨_,(@pss_cons _ _ _ _ _ (@ps_set _ _ (6) _ _ _ _ sc_l_told.nd rfl (by first | exact Or.inl rfl | exact Or.inr rfl) pe_non (by rfl) (by first | exact .inl rfl | exact .inr rfl | assumption)) (@pss_cons _ _ _ _ _ (@ps_set _ _ (7) _ _ _ _ sc_l_told.nd rfl (by first | exact Or.inl rfl | exact Or.inr rfl) pe_non (by rfl) (by first | exact .inl rfl | exact .inr rfl | assumption)) (@ss_cutE _ _ _ _ _ (@s_if _ _ _ _ _ _ _ _ (@t_val _ _ _ (dv 5) (by intro _; rfl)) (@pss_one _ _ _ (ps_tryA (n:=8) (i:=6) ⟨rfl,rfl,rfl⟩ c_l_asked hr (by decide) (by rfl) (@pa_cons _ _ _ _ _ (dv 0) (@pa_cons _ _ _ _ _ (dv 1) (@pa_cons _ _ _ _ _ (dv 2) (@pa_cons _ _ _ _ _ (dv 3) (@pa_cons _ _ _ _ _ (dv 4) pa_nil (by rfl)) (by rfl)) (by rfl)) (by rfl)) (by rfl)) rfl rfl (by rfl) er.b_LadderError er.x_LadderError.cat sc_l_told.nd rfl rfl (fun v=>(@pss_one _ _ _ (@ps_set _ _ (7) _ _ _ _ sc_l_told.nd rfl (by first | exact Or.inl rfl | exact Or.inr rfl) (dv 8) (by rfl) (by first | exact .inl rfl | exact .inr rfl | assumption)))))) (@pss_one _ _ _ (@ps_tryB2 _ _ _ _ _ _ _ _ _ _ _ _ _ _ _ _ _ _ (8) (8) _ _ ⟨rfl,rfl,rfl⟩ (fun σ0 p0 Eh=>(@pss_one _ _ _ (@ps_set _ _ (6) _ _ _ _ sc_l_told.nd rfl (by first | exact Or.inl rfl | exact Or.inr rfl) (@e_callT _ _ _ _ _ _ _ _ _ _ _ _ _ _ c_l_asked hr (by decide) (by rfl) (@pa_cons _ _ _ _ _ (dv 0) (@pa_cons _ _ _ _ _ (dv 1) (@pa_cons _ _ _ _ _ (dv 2) (@pa_cons _ _ _ _ _ (dv 3) (@pa_cons _ _ _ _ _ (dv 4) pa_nil (by rfl)) (by rfl)) (by rfl)) (by rfl)) (by rfl)) (by decide) (by rfl) (by rfl)) (by rfl) (by first | exact .inl rfl | exact .inr rfl | assumption)))) (by rfl) er.b_NoFit er.x_NoFit.cat (by rfl) er.b_NoPlayer er.x_NoPlayer.cat sc_l_told.nd rfl rfl rfl rfl (fun v=>(@pss_one _ _ _ (@ps_set _ _ (7) _ _ _ _ sc_l_told.nd rfl (by first | exact Or.inl rfl | exact Or.inr rfl) (dv 8) (by rfl) (by first | exact .inl rfl | exact .inr rfl | assumption)))) (fun v=>(@pss_one _ _ _ (@ps_set _ _ (7) _ _ _ _ sc_l_told.nd rfl (by first | exact Or.inl rfl | exact Or.inr rfl) (dv 8) (by rfl) (by first | exact .inl rfl | exact .inr rfl | assumption)))) (by decide) (by decide)))) (@pss_one _ _ _ (@ps_ret _ _ _ _ (@e_tup _ _ _ _ _ (@pa_cons _ _ _ _ _ (dv 6) (@pa_cons _ _ _ _ _ (dv 7) pa_nil (by rfl)) (by rfl)))))))),?_⟩
      refine ⟨fun σ H'=>∃ x y,σ = [some (.int w),some (.ref L),some (.str an),some (.int sc),some (.int n),some (.bl b),some x,some y,none]∧Same H H'∧Out K gs an H' x y,?_,?_⟩
      · refine ⟨fun _ => ?_, fun _ => ?_⟩
        · refine ⟨gs,nm,hB,hsc,hn,⟨fun ha ne hno H1 s1 C hC=>?_,fun dt hv C dx v H1 hC s1 e1 r1=>?_⟩,fun ha han U xs H1 s1 e1 l1=>⟨_,_,rfl,s1,.ok U xs ha han e1 l1⟩⟩
          · obtain rfl := ns_inj hC er.y_NoPlayer
            exact ⟨_,rfl,er.x_NoPlayer,er.km_NoPlayer_LadderError,fun a H3 s3 e3=>⟨_,_,rfl,s1.trans s3,.np a _ ha ne hno hC e3⟩⟩
          · obtain rfl := ns_inj hC er.y_NoFit
            exact ⟨_,rfl,er.x_NoFit,er.km_NoFit_LadderError,fun a H3 s3 e3=>⟨_,_,rfl,s1.trans s3,.nf a _ dx v dt hv hC e3 (s3 _ _ e1) (r1.up s3)⟩⟩
        · refine ⟨rfl,gs,nm,hB,hsc,hn,⟨fun ha ne hno H1 s1 C hC=>?_,fun dt hv C dx v H1 hC s1 e1 r1=>?_⟩,fun ha han U xs H1 s1 e1 l1=>⟨_,_,rfl,s1,.ok U xs ha han e1 l1⟩⟩
          · obtain rfl := ns_inj hC er.y_NoPlayer
            exact ⟨_,false,rfl,er.x_NoPlayer,er.kn_NoPlayer_NoFit,.inr ⟨rfl,er.km_NoPlayer_NoPlayer,fun a H3 s3 e3=>⟨_,_,rfl,s1.trans s3,.np a _ ha ne hno hC e3⟩⟩⟩
          · obtain rfl := ns_inj hC er.y_NoFit
            exact ⟨_,true,rfl,er.x_NoFit,er.km_NoFit_NoFit,.inl ⟨rfl,fun a H3 s3 e3=>⟨_,_,rfl,s1.trans s3,.nf a _ dx v dt hv hC e3 (s3 _ _ e1) (r1.up s3)⟩⟩⟩
      · rintro σ H1 ⟨x, y, rfl, s1, o1⟩
        exact fun T H2 s2 e2=>k T x y H2 (s1.trans s2) e2 (o1.up s2)
def sp_l_no_other (K:PySem.W.Frag) (ns:List Int):Sp:=fun vs H Q _=>match vs with
  | [.ref p]=>∃ C d,(PySem.W.nsIn K mainGlobals "NoPlayer" = some (some (.ref C)) ∨ PySem.W.nsIn K mainGlobals "NoFit" = some (some (.ref C)))∧H p = some (.ext (ExcAt p C d))∧Q (.bl true) H
  | _ => False
theorem sc_l_no_other:FnScope ["_law_error"] ["_law_error"] (defScope s_l_no_other):=⟨rfl,rfl,rfl,by decide +kernel,rfl,by decide +kernel,by decide +kernel⟩
theorem ok_l_no_other (d:Dfn K mg "_law_no_other" s_l_no_other ["_law_error"]) (er:Errs K mg c_LadderError c_NoBook c_NoFit c_NoGame c_NoNumber c_NoPlayer c_NoRow c_NoStretch c_NoTable c_NoTree c_NoWorth) (n_isinstance:mg "isinstance" = none) (n_ValueError:mg "ValueError" = none)  :Cal P w K mg base "_law_no_other" ["_law_error"] 1 (sp_l_no_other K ns):=by
  refine d.cal (k:=0) sc_l_no_other (fun vs H Q E h=>?_) (fun f cdv A outer s H vs Q E hr h=>?_)
  · match vs, h with
    | [.ref p], _ => rfl
  · match vs, h with
    | [.ref p], hq0 =>
      obtain ⟨C, dx, hC, ep, q⟩ := hq0
      refine ⟨_,(@pss_cons _ _ _ _ _ (@s_if _ _ _ _ _ _ _ _ (@L2.PW.pt _ _ _ (@w_or _ _ _ _ _ _ _ (@t_val _ _ _ (@pe_callB _ _ _ _ _ _ _ _ _ c_isiD (by rfl) n_isinstance (by decide +kernel) (@pa_cons _ _ _ _ _ (dv 0) (@pa_cons _ _ _ _ _ (@pe_glob _ _ (.ref c_NoBook) _ _ (by rfl) er.b_NoBook rfl (by decide)) pa_nil (by rfl)) (by rfl)) (by decide) (by decide) (by rfl) (by rfl)) (by intro _; rfl)) (@w_or _ _ _ _ _ _ _ (@t_val _ _ _ (@pe_callB _ _ _ _ _ _ _ _ _ c_isiD (by rfl) n_isinstance (by decide +kernel) (@pa_cons _ _ _ _ _ (dv 0) (@pa_cons _ _ _ _ _ (@pe_glob _ _ (.ref c_NoWorth) _ _ (by rfl) er.b_NoWorth rfl (by decide)) pa_nil (by rfl)) (by rfl)) (by decide) (by decide) (by rfl) (by rfl)) (by intro _; rfl)) (@pw_or1 _ _ _ _ (@t_val _ _ _ (@pe_callB _ _ _ _ _ _ _ _ _ c_isiD (by rfl) n_isinstance (by decide +kernel) (@pa_cons _ _ _ _ _ (dv 0) (@pa_cons _ _ _ _ _ (@pe_glob _ _ (.ref c_NoGame) _ _ (by rfl) er.b_NoGame rfl (by decide)) pa_nil (by rfl)) (by rfl)) (by decide) (by decide) (by rfl) (by rfl)) (by intro _; rfl)))))) (@pss_one _ _ _ (@ps_ret _ _ _ _ pe_bl)) pss_nil) (@pss_cons _ _ _ _ _ (@s_if _ _ _ _ _ _ _ _ (@L2.PW.pt _ _ _ (@w_or _ _ _ _ _ _ _ (@t_val _ _ _ (@pe_callB _ _ _ _ _ _ _ _ _ c_isiD (by rfl) n_isinstance (by decide +kernel) (@pa_cons _ _ _ _ _ (dv 0) (@pa_cons _ _ _ _ _ (@pe_glob _ _ (.ref c_NoNumber) _ _ (by rfl) er.b_NoNumber rfl (by decide)) pa_nil (by rfl)) (by rfl)) (by decide) (by decide) (by rfl) (by rfl)) (by intro _; rfl)) (@w_or _ _ _ _ _ _ _ (@t_val _ _ _ (@pe_callB _ _ _ _ _ _ _ _ _ c_isiD (by rfl) n_isinstance (by decide +kernel) (@pa_cons _ _ _ _ _ (dv 0) (@pa_cons _ _ _ _ _ (@pe_glob _ _ (.ref c_NoTree) _ _ (by rfl) er.b_NoTree rfl (by decide)) pa_nil (by rfl)) (by rfl)) (by decide) (by decide) (by rfl) (by rfl)) (by intro _; rfl)) (@pw_or1 _ _ _ _ (@t_val _ _ _ (@pe_callB _ _ _ _ _ _ _ _ _ c_isiD (by rfl) n_isinstance (by decide +kernel) (@pa_cons _ _ _ _ _ (dv 0) (@pa_cons _ _ _ _ _ (@pe_glob _ _ (.ref c_NoRow) _ _ (by rfl) er.b_NoRow rfl (by decide)) pa_nil (by rfl)) (by rfl)) (by decide) (by decide) (by rfl) (by rfl)) (by intro _; rfl)))))) (@pss_one _ _ _ (@ps_ret _ _ _ _ pe_bl)) pss_nil) (@pss_cons _ _ _ _ _ (@s_if _ _ _ _ _ _ _ _ (@L2.PW.pt _ _ _ (@w_or _ _ _ _ _ _ _ (@t_val _ _ _ (@pe_callB _ _ _ _ _ _ _ _ _ c_isiD (by rfl) n_isinstance (by decide +kernel) (@pa_cons _ _ _ _ _ (dv 0) (@pa_cons _ _ _ _ _ (@pe_glob _ _ (.ref c_NoStretch) _ _ (by rfl) er.b_NoStretch rfl (by decide)) pa_nil (by rfl)) (by rfl)) (by decide) (by decide) (by rfl) (by rfl)) (by intro _; rfl)) (@pw_or1 _ _ _ _ (@t_val _ _ _ (@pe_callB _ _ _ _ _ _ _ _ _ c_isiD (by rfl) n_isinstance (by decide +kernel) (@pa_cons _ _ _ _ _ (dv 0) (@pa_cons _ _ _ _ _ (@pe_glob _ _ (.ref c_NoTable) _ _ (by rfl) er.b_NoTable rfl (by decide)) pa_nil (by rfl)) (by rfl)) (by decide) (by decide) (by rfl) (by rfl)) (by intro _; rfl))))) (@pss_one _ _ _ (@ps_ret _ _ _ _ pe_bl)) pss_nil) (@pss_one _ _ _ (@ps_ret _ _ _ _ (@e_and _ _ _ _ _ _ _ (@pe_callB _ _ _ _ _ _ _ _ _ c_isiD (by rfl) n_isinstance (by decide +kernel) (@pa_cons _ _ _ _ _ (dv 0) (@pa_cons _ _ _ _ _ (@pe_glob _ _ (.ref c_LadderError) _ _ (by rfl) er.b_LadderError rfl (by decide)) pa_nil (by rfl)) (by rfl)) (by decide) (by decide) (by rfl) (by rfl)) (@pe_one _ _ _ _ _ (@pe_callB _ _ _ _ _ _ _ _ _ c_isiD (by rfl) n_isinstance (by decide +kernel) (@pa_cons _ _ _ _ _ (dv 0) (@pa_cons _ _ _ _ _ (e_ty "ValueError" (by rfl) n_ValueError (by decide +kernel)) pa_nil (by rfl)) (by rfl)) (by decide) (by decide) (by rfl) (by rfl))))))))),?_⟩
      rcases hC with hC | hC
      · obtain rfl := ns_inj hC er.y_NoPlayer
        have x := er.x_NoPlayer
        exact ⟨_,dx,false,ep,x,er.kk_NoPlayer_NoBook,⟨fun h=>nb h,fun _=>⟨_,dx,false,ep,x,er.kk_NoPlayer_NoWorth,⟨fun h=>nb h,fun _=>⟨_,dx,false,ep,x,er.kk_NoPlayer_NoGame,⟨fun h=>nb h,fun _=>⟨_,dx,false,ep,x,er.kk_NoPlayer_NoNumber,⟨fun h=>nb h,fun _=>⟨_,dx,false,ep,x,er.kk_NoPlayer_NoTree,⟨fun h=>nb h,fun _=>⟨_,dx,false,ep,x,er.kk_NoPlayer_NoRow,⟨fun h=>nb h,fun _=>⟨_,dx,false,ep,x,er.kk_NoPlayer_NoStretch,⟨fun h=>nb h,fun _=>⟨_,dx,false,ep,x,er.kk_NoPlayer_NoTable,⟨fun h=>nb h,fun _=>⟨_,dx,true,ep,x,er.kk_NoPlayer_LadderError,⟨fun _=>⟨_,dx,true,ep,x,er.kv_NoPlayer,q⟩,fun h=>nb h⟩⟩⟩⟩⟩⟩⟩⟩⟩⟩⟩⟩⟩⟩⟩⟩⟩⟩
      · obtain rfl := ns_inj hC er.y_NoFit
        have x := er.x_NoFit
        exact ⟨_,dx,false,ep,x,er.kk_NoFit_NoBook,⟨fun h=>nb h,fun _=>⟨_,dx,false,ep,x,er.kk_NoFit_NoWorth,⟨fun h=>nb h,fun _=>⟨_,dx,false,ep,x,er.kk_NoFit_NoGame,⟨fun h=>nb h,fun _=>⟨_,dx,false,ep,x,er.kk_NoFit_NoNumber,⟨fun h=>nb h,fun _=>⟨_,dx,false,ep,x,er.kk_NoFit_NoTree,⟨fun h=>nb h,fun _=>⟨_,dx,false,ep,x,er.kk_NoFit_NoRow,⟨fun h=>nb h,fun _=>⟨_,dx,false,ep,x,er.kk_NoFit_NoStretch,⟨fun h=>nb h,fun _=>⟨_,dx,false,ep,x,er.kk_NoFit_NoTable,⟨fun h=>nb h,fun _=>⟨_,dx,true,ep,x,er.kk_NoFit_LadderError,⟨fun _=>⟨_,dx,true,ep,x,er.kv_NoFit,q⟩,fun h=>nb h⟩⟩⟩⟩⟩⟩⟩⟩⟩⟩⟩⟩⟩⟩⟩⟩⟩⟩
def sp_l_of (K:PySem.W.Frag) (ns:List Int):Sp:=fun vs H Q _=>match vs with
  | [.ref D,.ref N]=>∃ (gs:List Gm) (nm:List Str),(BkL H D gs∧BL nm gs∧gs.length ≤ 60)∧(H N = some (.lst (nm.map V.str))∧Inc nm∧nm.length ≤ 60)∧∀ U H',Same H H'→H' U = some (.lst ((plr gs).map V.str))→Q (.ref U) H'
  | _ => False
theorem sc_l_of:FnScope ["_law_games_here","_law_names"] ["_law_games_here","_law_names"] (defScope s_l_of):=⟨rfl,rfl,rfl,by decide +kernel,rfl,by decide +kernel,by decide +kernel⟩
theorem ok_l_of (d:Dfn K mg "_law_of" s_l_of ["_law_games_here","_law_names"]) (er:Errs K mg c_LadderError c_NoBook c_NoFit c_NoGame c_NoNumber c_NoPlayer c_NoRow c_NoStretch c_NoTable c_NoTree c_NoWorth) (n_len:mg "len" = none)  :Cal P w K mg base "_law_of" ["_law_games_here","_law_names"] 1 (sp_l_of K ns):=by
  refine d.cal (k:=0) sc_l_of (fun vs H Q E h=>?_) (fun f cdv A outer s H vs Q E hr h=>?_)
  · match vs, h with
    | [.ref D, .ref N], _ => rfl
  · match vs, h with
    | [.ref D, .ref N], hq0 =>
      obtain ⟨gs,nm,⟨⟨gv,eg,ag⟩,bl,gl⟩,⟨e1,inm,ln⟩,k⟩:=hq0
      refine ⟨_,(@pss_one _ _ _ (@ps_ret _ _ _ _ (@e_compKN _ _ _ _ _ _ _ _ _ _ _ _ ("_law_name") ["_law_name"] ["_law_games_here"] [0] rfl (@pi_list _ _ _ _ (dv 1)) (fun C s H fp=>(@pg_name _ _ (0) _ (show List.Nodup [("_law_name":Str),("_law_games_here":Str)] by decide +kernel) rfl (by first | exact Or.inl rfl | exact Or.inr rfl) (by first | exact .inl rfl | exact .inr rfl | assumption))) (fun C s H fp=>(@t_cmp _ _ _ _ _ _ _ _ o_gt (@pe_callB _ _ _ _ _ _ _ _ _ (show CallR _ (.builtin "len") (dLen K) from c_len) (by rfl) n_len (by decide +kernel) (@pa_cons _ _ _ _ _ (@e_compIN _ _ _ _ _ _ _ _ _ _ _ _ ["_law_one"] ["_law_name"] [0] rfl (show PI _ _ _ (iList K _) from pi_list (dv 1)) (fun C s H fp=>(@pg_name _ _ (0) _ (show List.Nodup [("_law_one":Str),("_law_name":Str)] by decide +kernel) rfl (by first | exact Or.inl rfl | exact Or.inr rfl) (by first | exact .inl rfl | exact .inr rfl | assumption))) (fun C s H fp=>(@t_cmp _ _ _ _ _ _ _ _ (show OpR _ _ (dInS K) from o_in) (dv 1) (@pe_slice _ _ _ _ _ _ _ _ _ _ (show SlR _ (rSlT K) from sl_tup) (dv 0) (po_some pe_int) (po_some pe_int)) (by with_unfolding_all rfl))) (fun C s H fp=>(dv 0)) rfl rfl (by decide +kernel) (by decide +kernel) (by rfl) ⟨rfl,True.intro⟩ ⟨⟨rfl,rfl,rfl,rfl⟩,True.intro⟩ (by intro _; rfl)) pa_nil (by rfl)) (by decide) (by decide) (by rfl) (by rfl)) pe_int (@nomark _ _ (by decide) (by decide)))) (fun C s H fp=>(dv 0)) rfl rfl (fun _=>rfl) (by decide +kernel) (by decide +kernel) (by decide +kernel) (by rfl) ⟨rfl,True.intro⟩ ⟨⟨rfl,rfl,rfl,rfl⟩,True.intro⟩ (by intro _; rfl)))),?_⟩
      have gl : gv.length ≤ 60 := by rw [ag.len]; exact gl
      refine ⟨N,rfl,⟨_,SqL.of e1⟩,comp_absI (fun _ v m=>v = V.str m) (fun _ _ _ _ _ h=>h) (fun _ m y=>y = V.str m) (fun _ _ _ _ _ h=>h) (fun x=>decide (∃ g ∈ gs,g.a = x ∨ g.b = x)) (by rw [List.length_map]; omega) (SqL.of e1) (all2_strv nm) ?_ ?_⟩
      · intro v x H2 hM hx s2 P P' hP hP'
        subst hM
        refine ⟨rfl,D,rfl,⟨_,SqL.of (s2 _ _ eg)⟩,comp_absI GmAt gm_up (fun H g y=>GmAt H y g) (fun g y H H' kt h=>gm_up y g H H' kt h) (fun g=>decide (g.a = x ∨ g.b = x)) (by omega) (SqL.of (s2 _ _ eg)) (ag.imp fun v g r=>gm_up v g _ _ (kt_of s2) r) ?_ ?_⟩
        · intro v g H3 hM hg s3 R R' hR hR'
          obtain ⟨p, rfl, ep⟩ := hM
          refine ⟨rfl,_,rfl,_,rfl,p,_,rfl,SqT.of ep,fun h=>absurd h.1 (by simp [HT.sIx]),fun p2 hp2=>?_⟩
          have s4:=same_upd (o:=.tup (cutV [V.int g.d,.str g.a,.str g.b,.int g.h,.int g.s] (some 1) (some 3))) hp2
          refine ⟨[.str g.a,.str g.b],.inr (SqT.of upd_same),rfl,rfl,?_⟩
          rw [in_two]
          exact ⟨fun h=>hR h _ _ s4 ⟨p,rfl,s4 _ _ ep⟩,fun h=>hR' h _ s4⟩
        intro D2 H3 ys s3 _ e3 a3
        refine ⟨_,.inl (SqL.of e3),⟨fun h=>hP ?_ _ _ s3 rfl,fun h=>hP' ?_ _ s3⟩⟩
        · have h := of_decide_eq_true h
          rw [← a3.len] at h
          exact decide_eq_true (len_filter.mp h)
        · have h := of_decide_eq_false h
          rw [← a3.len] at h
          exact decide_eq_false fun z=>h (len_filter.mpr z)
      intro T H2 ys s2 _ e2 a2
      have y2 := all2_ystrv a2
      rw [there_plr inm bl] at y2
      rw [y2] at e2
      exact k T H2 s2 e2
theorem cl_lists:∀ {ps:List (List Str)},(∀ p ∈ ps,∀ x ∈ p,PyData.strOk x = true)→PyData.canLayAll0 (ps.map fun p=>PyData.list (p.map PyData.str)) = true
  | [], _ => rfl
  | p :: ps, h => by
    show (PyData.canLayAll0 (p.map PyData.str) && PyData.canLayAll0 (ps.map fun p=>PyData.list (p.map PyData.str))) = true
    rw [cl_strs (h p List.mem_cons_self),cl_lists fun q hq=>h q (List.mem_cons_of_mem _ hq)]
    rfl
theorem dp_lists:∀ (ps:List (List Str)),PyData.depthAll (ps.map fun p=>PyData.list (p.map PyData.str)) ≤ 1
  | [] => by show 0 ≤ 1; decide
  | p :: ps => by
    show max (PyData.depthAll (p.map PyData.str) + 1) (PyData.depthAll (ps.map fun p=>PyData.list (p.map PyData.str))) ≤ 1
    rw [dp_strs]
    have := dp_lists ps
    omega
theorem sh_vl {w:Str} {ps:List (List Str)} (hw:PyData.strOk w = true) (h:∀ p ∈ ps,∀ x ∈ p,PyData.strOk x = true):SeqAt.shaped (.tuple [.str w,.list (ps.map fun p=>PyData.list (p.map PyData.str))]) = true:=by
  unfold SeqAt.shaped
  rw [show (PyData.tuple [.str w,.list (ps.map fun p=>PyData.list (p.map PyData.str))]).canLay0 = (PyData.strOk w && (PyData.canLayAll0 (ps.map fun p=>PyData.list (p.map PyData.str)) && true)) from rfl,hw,cl_lists h,show (PyData.tuple [.str w,.list (ps.map fun p=>PyData.list (p.map PyData.str))]).depth = max 0 (max (PyData.depthAll (ps.map fun p=>PyData.list (p.map PyData.str)) + 1) 0) + 1 from rfl]
  have := dp_lists ps
  rw [Bool.true_and, Bool.true_and, Bool.true_and]
  exact decide_eq_true (by omega)
theorem sh_vs {w:Str} {p:List Str} (hw:PyData.strOk w = true) (h:∀ x ∈ p,PyData.strOk x = true):SeqAt.shaped (.tuple [.str w,.list (p.map PyData.str)]) = true:=by
  unfold SeqAt.shaped
  rw [show (PyData.tuple [.str w,.list (p.map PyData.str)]).canLay0 = (PyData.strOk w && (PyData.canLayAll0 (p.map PyData.str) && true)) from rfl,hw,cl_strs h,show (PyData.tuple [.str w,.list (p.map PyData.str)]).depth = max 0 (max (PyData.depthAll (p.map PyData.str) + 1) 0) + 1 from rfl,dp_strs]
  rfl
theorem jn_from {gs:List Gm}:∀ i,∀ p ∈ jnI gs i,∃ n ∈ plr gs,p = abv gs n
  | 0, p, h => by simp [jnI] at h
  | i + 1, p, h => by
    cases e : (plr gs)[i]? with
    | none =>
      have z : jnI gs (i + 1) = jnI gs i := by
        unfold jnI
        rw [List.take_add_one, e]
        exact congrArg (fun l=>List.foldl (jstep gs) [] l) (List.append_nil _)
      rw [z] at h
      exact jn_from i p h
    | some n =>
      rw [jnI_succ e] at h
      unfold jstep at h
      split at h
      · exact jn_from i p h
      · rcases List.mem_append.mp h with h | h
        · exact jn_from i p h
        · rw [List.mem_singleton] at h
          exact ⟨n, List.mem_of_getElem? e, h⟩
theorem VD.sh {gs:List Gm} {nm:List Str} {d:PyData} (bl:BL nm gs) (sok:∀ z ∈ nm,PyData.strOk z = true) (h:VD gs d):SeqAt.shaped d = true:=by
  have ps:∀ x ∈ plr gs,PyData.strOk x = true:=fun x hx=>sok x (plr_sub bl.mem hx)
  have as:∀ n ∈ plr gs,∀ x ∈ abv gs n,PyData.strOk x = true:=fun n hn x hx=>by
    rcases rch_plr (mem_abv.mp hx) with e | e
    · rw [e]
      exact ps n hn
    · exact ps x e
  cases h with
  | none i n h1 h2 h3=>exact sh_vs (by decide +kernel) (as n (List.mem_of_getElem? h1))
  | loose h1 h2 =>
    refine sh_vl (by decide +kernel) fun p hp => ?_
    obtain ⟨n, hn, rfl⟩ := jn_from _ p hp
    exact as n hn
def DueV (gs:List Gm) (H:Hp) (T:Addr):Prop:=(Fit gs∧∃ F,H T = some (.tup [.str (Str.ofString "one"),.ref F])) ∨ ∃ d w F,VD gs d∧Rq H (.ref T) d∧H T = some (.tup [.str w,.ref F])∧w ≠ Str.ofString "one"
theorem DueV.up {gs:List Gm} {H H':Hp} {T:Addr} (s:Same H H') (h:DueV gs H T):DueV gs H' T:=by
  rcases h with ⟨f, F, e⟩ | ⟨d, w, F, h1, h2, h3, h4⟩
  · exact .inl ⟨f, F, s _ _ e⟩
  · exact .inr ⟨d, w, F, h1, h2.up s, s _ _ h3, h4⟩
def sp_l_right (K:PySem.W.Frag) (ns:List Int):Sp:=fun vs H Q _=>match vs with
  | [.ref T,.ref U,.ref N,.str an]=>∃ (gs:List Gm) (x y:V) (nm:List Str),(H T = some (.tup [x,y])∧Out K gs an H x y)∧DueV gs H U∧(BL nm gs∧(∀ z ∈ nm,PyData.strOk z = true)∧nm.length ≤ 60)∧SqL K H N ((plr gs).map V.str)∧Q (.bl true) H
  | _ => False
theorem sc_l_right:FnScope ["_law_told_here","_law_due","_law_there","_law_anchor","_law_found","_law_caught"] ["_law_told_here","_law_due","_law_there","_law_anchor"] (defScope s_l_right):=⟨rfl,rfl,rfl,by decide +kernel,rfl,by decide +kernel,by decide +kernel⟩
theorem ok_l_right (d:Dfn K mg "_law_right" s_l_right ["_law_told_here","_law_due","_law_there","_law_anchor"]) (er:Errs K mg c_LadderError c_NoBook c_NoFit c_NoGame c_NoNumber c_NoPlayer c_NoRow c_NoStretch c_NoTable c_NoTree c_NoWorth) (n_len:mg "len" = none) (n_isinstance:mg "isinstance" = none) (n_list:mg "list" = none)  (c_l_no_other:Cal P w K mg base "_law_no_other" ["_law_error"] 1 (sp_l_no_other K ns)):Cal P w K mg base "_law_right" ["_law_told_here","_law_due","_law_there","_law_anchor"] 2 (sp_l_right K ns):=by
  refine d.cal (k:=1) sc_l_right (fun vs H Q E h=>?_) (fun f cdv A outer s H vs Q E hr h=>?_)
  · match vs, h with
    | [.ref T, .ref U, .ref N, .str an], _ => rfl
  · match vs, h with
    | [.ref T, .ref U, .ref N, .str an], hq0 =>
      obtain ⟨gs,x,y,nm,⟨eT,ho⟩,hU,⟨bl,sok,ln⟩,hN,q⟩:=hq0
      refine ⟨_,(@pss_cons _ _ _ _ _ (@ps_asg _ _ _ _ _ _ (dv 0) (@pg_tup _ _ _ _ _ _ rfl (@pgs_cons _ _ _ _ _ (@pg_name _ _ (4) _ sc_l_right.nd rfl (by first | exact Or.inl rfl | exact Or.inr rfl) (by first | exact .inl rfl | exact .inr rfl | assumption)) (@pgs_cons _ _ _ _ _ (@pg_name _ _ (5) _ sc_l_right.nd rfl (by first | exact Or.inl rfl | exact Or.inr rfl) (by first | exact .inl rfl | exact .inr rfl | assumption)) pgs_nil (by rfl)) (by rfl)) (by rfl) (by rfl)) (by rfl) (by rfl) (by rfl)) (@pss_cons _ _ _ _ _ (@s_if _ _ _ _ _ _ _ _ (@t_cmp _ _ _ _ _ _ _ _ o_ne (@pe_ix _ _ _ _ _ _ _ i_tup (dv 1) pe_int (fun _ _=>rfl)) pe_str (@nomark _ _ (by decide) (by decide))) (@pss_cons _ _ _ _ _ (@s_if _ _ _ _ _ _ _ _ (@L2.PW.pt _ _ _ (@w_or _ _ _ _ _ _ _ (@t_notN _ _ _ _ _ _ (dv 4)) (@w_or _ _ _ _ _ _ _ (@pt_not _ _ _ _ (@t_val _ _ _ (@pe_callB _ _ _ _ _ _ _ _ _ c_isiD (by rfl) n_isinstance (by decide +kernel) (@pa_cons _ _ _ _ _ (dv 5) (@pa_cons _ _ _ _ _ (@pe_glob _ _ (.ref c_NoFit) _ _ (by rfl) er.b_NoFit rfl (by decide)) pa_nil (by rfl)) (by rfl)) (by decide) (by decide) (by rfl) (by rfl)) (by intro _; rfl))) (@pw_or1 _ _ _ _ (@t_val _ _ _ (@pe_callB _ _ _ _ _ _ _ _ _ c_isiD (by rfl) n_isinstance (by decide +kernel) (@pa_cons _ _ _ _ _ (dv 5) (@pa_cons _ _ _ _ _ (@pe_glob _ _ (.ref c_NoPlayer) _ _ (by rfl) er.b_NoPlayer rfl (by decide)) pa_nil (by rfl)) (by rfl)) (by decide) (by decide) (by rfl) (by rfl)) (by intro _; rfl)))))) (@pss_one _ _ _ (@ps_ret _ _ _ _ pe_bl)) pss_nil) (@pss_one _ _ _ (@ps_ret _ _ _ _ (@e_and _ _ _ _ _ _ _ (@e_call _ _ _ _ _ _ _ _ _ _ _ c_l_no_other hr (by decide) (by rfl) (@pa_cons _ _ _ _ _ (dv 5) pa_nil (by rfl)) (by decide) (by rfl) (by rfl)) (@pe_one _ _ _ _ _ (@pe_cmpR _ _ _ _ _ _ _ _ (@o_eqD _ hr.units) (@e_fldX _ _ _ _ _ (dv 5) (by rfl)) (dv 1) (@nomark _ _ (by decide) (by decide)))))))) pss_nil) (@pss_cons _ _ _ _ _ (@s_if _ _ _ _ _ _ _ _ (@t_cmp _ _ _ _ _ _ _ _ o_notin (dv 3) (dv 2) (by with_unfolding_all rfl)) (@pss_cons _ _ _ _ _ (@s_if _ _ _ _ _ _ _ _ (@L2.PW.pt _ _ _ (@w_or _ _ _ _ _ _ _ (@t_notN _ _ _ _ _ _ (dv 4)) (@w_or _ _ _ _ _ _ _ (@pt_not _ _ _ _ (@t_val _ _ _ (@pe_callB _ _ _ _ _ _ _ _ _ c_isiD (by rfl) n_isinstance (by decide +kernel) (@pa_cons _ _ _ _ _ (dv 5) (@pa_cons _ _ _ _ _ (@pe_glob _ _ (.ref c_NoPlayer) _ _ (by rfl) er.b_NoPlayer rfl (by decide)) pa_nil (by rfl)) (by rfl)) (by decide) (by decide) (by rfl) (by rfl)) (by intro _; rfl))) (@pw_or1 _ _ _ _ (@t_val _ _ _ (@pe_callB _ _ _ _ _ _ _ _ _ c_isiD (by rfl) n_isinstance (by decide +kernel) (@pa_cons _ _ _ _ _ (dv 5) (@pa_cons _ _ _ _ _ (@pe_glob _ _ (.ref c_NoFit) _ _ (by rfl) er.b_NoFit rfl (by decide)) pa_nil (by rfl)) (by rfl)) (by decide) (by decide) (by rfl) (by rfl)) (by intro _; rfl)))))) (@pss_one _ _ _ (@ps_ret _ _ _ _ pe_bl)) pss_nil) (@pss_one _ _ _ (@ps_ret _ _ _ _ (@e_call _ _ _ _ _ _ _ _ _ _ _ c_l_no_other hr (by decide) (by rfl) (@pa_cons _ _ _ _ _ (dv 5) pa_nil (by rfl)) (by decide) (by rfl) (by rfl))))) pss_nil) (@pss_one _ _ _ (@ps_ret _ _ _ _ (@e_and _ _ _ _ _ _ _ (@e_isN _ _ _ _ _ _ (dv 5)) (@e_and _ _ _ _ _ _ _ (@pe_callB _ _ _ _ _ _ _ _ _ c_isi (by rfl) n_isinstance (by decide +kernel) (@pa_cons _ _ _ _ _ (dv 4) (@pa_cons _ _ _ _ _ (e_ty "list" (by rfl) n_list (by decide +kernel)) pa_nil (by rfl)) (by rfl)) (by decide) (by decide) (by rfl) (by rfl)) (@pe_one _ _ _ _ _ (@pe_cmpR _ _ _ _ _ _ _ _ o_eq (@pe_callB _ _ _ _ _ _ _ _ _ c_len (by rfl) n_len (by decide +kernel) (@pa_cons _ _ _ _ _ (dv 4) pa_nil (by rfl)) (by decide) (by decide) (by rfl) (by rfl)) (@pe_callB _ _ _ _ _ _ _ _ _ c_len (by rfl) n_len (by decide +kernel) (@pa_cons _ _ _ _ _ (dv 2) pa_nil (by rfl)) (by decide) (by decide) (by rfl) (by rfl)) (@nomark _ _ (by decide) (by decide))))))))))),?_⟩
      cases ho with
      | ok Z xs ha han e l =>
        have fit := fit_of ha (List.ne_nil_of_mem han)
        rcases hU with ⟨_, F, eU⟩ | ⟨dt, w, F, hv, _⟩
        · refine ⟨T,_,rfl,SqT.of eT,rfl,_,_,rfl,_,_,rfl,rfl,?_⟩
          refine ⟨_,eU,⟨fun h=>absurd h (by decide),fun _=>?_⟩⟩
          refine ⟨_, .inl hN, rfl, flat_strs _, ?_⟩
          rw [in_strs]
          refine ⟨fun h=>absurd han (by simpa using h),fun _=>?_⟩
          refine ⟨fun _=>⟨_,true,"list",e,rfl,rfl,⟨fun _=>⟨_,.inl (SqL.of e),_,.inl hN,?_⟩,fun h=>nb h⟩⟩,fun h=>nb h⟩
          exact (congrArg (fun b=>Q (.bl b) H) (decide_eq_true (by rw [List.length_map,l]):decide ((xs.length:Int) = (((plr gs).map V.str).length:Int)) = true)).mpr q
        · exact absurd fit hv.nofit
      | np p C ha ne hno hC ep =>
        have fit := fit_of ha ne
        rcases hU with ⟨_, F, eU⟩ | ⟨dt, w, F, hv, _⟩
        · obtain rfl := ns_inj hC er.y_NoPlayer
          refine ⟨T,_,rfl,SqT.of eT,rfl,_,_,rfl,_,_,rfl,rfl,?_⟩
          refine ⟨_,eU,⟨fun h=>absurd h (by decide),fun _=>?_⟩⟩
          refine ⟨_, .inl hN, rfl, flat_strs _, ?_⟩
          rw [in_strs]
          refine ⟨fun _=>?_,fun h=>absurd (by simpa using h) hno⟩
          refine ⟨fun h=>absurd h (by decide),fun _=>⟨_,none,true,ep,er.x_NoPlayer,er.kk_NoPlayer_NoPlayer,⟨fun h=>nb h,fun _=>⟨_,none,false,ep,er.x_NoPlayer,er.kk_NoPlayer_NoFit,⟨fun h=>nb h,fun _=>?_⟩⟩⟩⟩⟩
          exact ⟨_, none, .inl hC, ep, q⟩
        · exact absurd fit hv.nofit
      | nf p C dx v dt hv hC ep ex hR =>
        rcases hU with ⟨fit,F,eU⟩ | ⟨d2,w,F,hv2,hR2,eU,hw⟩
        · exact absurd fit hv.nofit
        · obtain rfl := ns_inj hC er.y_NoFit
          obtain rfl := hv.uniq hv2
          refine ⟨T,_,rfl,SqT.of eT,rfl,_,_,rfl,_,_,rfl,rfl,?_⟩
          refine ⟨_,eU,⟨fun _=>?_,fun h=>absurd (by simpa using h) hw⟩⟩
          refine ⟨fun h=>absurd h (by decide),fun _=>⟨_,some dx,true,ep,er.x_NoFit,er.kk_NoFit_NoFit,⟨fun h=>nb h,fun _=>⟨_,some dx,false,ep,er.x_NoFit,er.kk_NoFit_NoPlayer,⟨fun h=>nb h,fun _=>?_⟩⟩⟩⟩⟩
          refine ⟨_,some dx,.inr hC,ep,⟨fun _=>?_,fun h=>nb h⟩⟩
          refine ⟨p,_,dx,_,v,rfl,ep,ex,er.x_NoFit,er.es_NoFit,er.na_NoFit_verdict,rfl,_,_,hR.rp,hR2.rp,hv.sh bl sok,hv.sh bl sok,?_⟩
          exact (congrArg (fun b=>Q (.bl b) H) (eqv_shaped (hv.sh bl sok))).mpr q
theorem comp_rngQ {lo:Int} {n:Nat} {g:TG} {te:TE} {k:Nat} {js:List Nat} {σ:L2.St} {H1:Hp} {Q:VK} (R:Hp→Nat→V→Prop) (up:∀ j y H H',Kt H H'→R H j y→R H' j y) (hz:n ≤ 1000)
    (hs:∀ i H2,i < n→Same H1 H2→∀ P:VK,(∀ y H3,Same H2 H3→R H3 i y→P y H3)→g (.int (lo + (i:Int))) (List.replicate k none ++ capσ js σ) H2 fun σ2 H3=>σ2.drop k = capσ js σ∧te σ2 H3 P)
    (hq:∀ D H' ys,Same H1 H'→H1 D = none→H' D = some (.lst ys)→ys.length = n→(∀ (j:Nat) y,ys[j]? = some y→R H' j y)→Q (.ref D) H'):CGoal (Itr lo n) g te k js σ H1 Q:=by
  unfold CGoal
  intro D hD
  refine ⟨fun i m H=>m = n - i∧i ≤ n∧Same H1 H∧∃ ys,H D = some (.lst ys)∧ys.length = i∧∀ (j:Nat) y,ys[j]? = some y→R H j y,⟨n,by simp,Nat.zero_le _,same_upd hD,[],upd_same,rfl,fun j y h=>by simp at h⟩,?_⟩
  rintro i m H ⟨rfl, hi, sm, ys, hH, ly, ar⟩
  by_cases hlt : i < n
  · refine .inr ⟨hlt, fun x H' y => ?_⟩
    obtain ⟨rfl, rfl⟩ := y
    have yl : ys.length < sizeLine := by
      rw [ly]
      exact Nat.lt_of_lt_of_le hlt (Nat.le_trans hz (by decide))
    refine hs i _ hlt sm _ fun y H3 s3 r3=>⟨ys,s3 _ _ hH,yl,n - (i + 1),by omega,rfl,hlt,same_app' (sm.trans s3) hD,ys ++ [y],upd_same,by rw [List.length_append,ly]; rfl,fun j z hz=>?_⟩
    have kt:Kt H3 (upd H3 D (.lst (ys ++ [y]))):=kt_upd (s3 _ _ hH)
    by_cases hj : j < ys.length
    · rw [List.getElem?_append_left hj] at hz
      exact up _ _ _ _ ((kt_of s3).trans kt) (ar j z hz)
    · have ej : j = i := by
        have := (List.getElem?_eq_some_iff.mp hz).1
        rw [List.length_append,List.length_singleton] at this
        omega
      subst ej
      rw [List.getElem?_append_right (by omega),ly,Nat.sub_self] at hz
      cases hz
      exact up _ _ _ _ kt r3
  · have e : i = n := by omega
    subst e
    exact .inl ⟨Nat.le_refl _, hq D _ ys sm hD hH ly ar⟩
def nm5 : List Str := ["ab", "abc", "b", "ba", "zzzzzzzz"]
theorem nm5_inc (j : Nat) : Inc (nm5.take j) := by
  have h : Inc nm5 := by
    unfold Inc nm5
    decide +kernel
  unfold Inc at h ⊢
  exact h.sublist (List.take_sublist ..)
theorem cut_take5 {j:Int} (h0:2 ≤ j) (h5:j ≤ 5):cutV (nm5.map V.str) none (some j) = (nm5.take j.toNat).map V.str:=by
  have : j = 2 ∨ j = 3 ∨ j = 4 ∨ j = 5 := by omega
  rcases this with rfl | rfl | rfl | rfl <;> rfl
def chn : List Str → List Gm
  | a :: b :: r => ⟨3, a, b, 1, 0⟩ :: chn (b :: r)
  | _ => []
theorem chn_len:∀ nm:List Str,(chn nm).length = nm.length - 1
  | [] => rfl
  | [_] => rfl
  | a :: b :: r => by
    show (chn (b :: r)).length + 1 = _
    rw [chn_len (b :: r)]
    simp
theorem chn_at:∀ (nm:List Str) (j:Nat) (m:Gm),(chn nm)[j]? = some m→∃ a b,nm[j]? = some a∧nm[j + 1]? = some b∧m = ⟨3,a,b,1,0⟩
  | [], j, m, h => by simp [chn] at h
  | [_], j, m, h => by simp [chn] at h
  | a :: b :: r, 0, m, h => by
    cases h
    exact ⟨a, b, rfl, rfl, rfl⟩
  | a :: b :: r, j + 1, m, h => by
    obtain ⟨x,y,h1,h2,h3⟩:=chn_at (b :: r) j m (by simpa [chn] using h)
    exact ⟨x, y, by simpa using h1, by simpa using h2, h3⟩
theorem chn_in:∀ (nm:List Str) (j:Nat) (a b:Str),nm[j]? = some a→nm[j + 1]? = some b→(⟨3,a,b,1,0⟩:Gm) ∈ chn nm
  | [], j, _, _, h, _ => by simp at h
  | [_], j, _, _, _, h => by simp at h
  | x :: y :: r, 0, a, b, h1, h2 => by
    cases h1
    cases h2
    exact List.mem_cons_self
  | x :: y :: r,j + 1,a,b,h1,h2=>List.mem_cons_of_mem _ (chn_in (y :: r) j a b (by simpa using h1) (by simpa using h2))
theorem all2_ix {α β:Type} {R:α→β→Prop}:∀ {l:List α} {m:List β},l.length = m.length→(∀ (j:Nat) a b,l[j]? = some a→m[j]? = some b→R a b)→All2 R l m
  | [], [], _, _ => .nil
  | [], _ :: _, h, _ => by simp at h
  | _ :: _, [], h, _ => by simp at h
  | a :: l,b :: m,h,k=>.cons (k 0 a b rfl rfl) (all2_ix (by simpa using h) fun j x y h1 h2=>k (j + 1) x y (by simpa using h1) (by simpa using h2))
theorem all2_app {α β:Type} {R:α→β→Prop}:∀ {l l':List α} {m m':List β},All2 R l m→All2 R l' m'→All2 R (l ++ l') (m ++ m')
  | _, _, _, _, .nil, h => h
  | _, _, _, _, .cons x r, h => .cons x (all2_app r h)
section
variable {nm : List Str} {gs : List Gm}
theorem chn_bl (nd:nm.Nodup) (bl:BL nm gs):BL nm (gs ++ chn nm):=by
  have at_:∀ g ∈ chn nm,∃ (j:Nat) (a b:Str),nm[j]? = some a∧nm[j + 1]? = some b∧g = ⟨3,a,b,1,0⟩:=fun g hg=>by
    obtain ⟨j, hj⟩ := List.getElem?_of_mem hg
    obtain ⟨a, b, h⟩ := chn_at nm j g hj
    exact ⟨j, a, b, h⟩
  refine ⟨fun g hg => ?_, fun g hg => ?_, fun g hg => ?_⟩
  · rcases List.mem_append.mp hg with hg | hg
    · exact bl.mem g hg
    · obtain ⟨j, a, b, h1, h2, rfl⟩ := at_ g hg
      exact ⟨List.mem_of_getElem? h1,List.mem_of_getElem? h2⟩
  · rcases List.mem_append.mp hg with hg | hg
    · exact bl.ne g hg
    · obtain ⟨j, a, b, h1, h2, rfl⟩ := at_ g hg
      obtain ⟨i1, e1⟩ := List.getElem?_eq_some_iff.mp h1
      obtain ⟨i2, e2⟩ := List.getElem?_eq_some_iff.mp h2
      intro z
      have z:nm[j] = nm[j + 1]:=e1.trans (Eq.trans z e2.symm)
      have := (List.getElem_inj nd).mp z
      omega
  · rcases List.mem_append.mp hg with hg | hg
    · exact bl.h0 g hg
    · obtain ⟨j, a, b, h1, h2, rfl⟩ := at_ g hg
      exact ⟨(by show (0:Int) ≤ 1; decide),(by show (1:Int) ≤ 2; decide)⟩
theorem chn_step (nd:nm.Nodup) {j:Nat} {a b:Str} (h1:nm[j]? = some a) (h2:nm[j + 1]? = some b):Rch (gs ++ chn nm) a b∧Rch (gs ++ chn nm) b a:=by
  have hm:(⟨3,a,b,1,0⟩:Gm) ∈ gs ++ chn nm:=List.mem_append_right _ (chn_in nm j a b h1 h2)
  have ne : a ≠ b := by
    obtain ⟨i1, e1⟩ := List.getElem?_eq_some_iff.mp h1
    obtain ⟨i2, e2⟩ := List.getElem?_eq_some_iff.mp h2
    intro z
    have z : nm[j] = nm[j + 1] := e1.trans (z.trans e2.symm)
    have := (List.getElem_inj nd).mp z
    omega
  refine ⟨.step .here (mem_tkr.mpr ⟨_,hm,.inl ⟨rfl,?_,rfl⟩⟩),.step .here (mem_tkr.mpr ⟨_,hm,.inr ⟨ne,rfl,?_,rfl⟩⟩)⟩
  · show (1 : Int) < 2; decide
  · first | (show (0:Int) < 1; decide) | (show 2 - (1:Int) < 2; decide)
theorem chn_rch (nd:nm.Nodup):∀ (k i:Nat) {a b:Str},nm[i]? = some a→nm[i + k]? = some b→Rch (gs ++ chn nm) a b∧Rch (gs ++ chn nm) b a
  | 0, i, a, b, h1, h2 => by
    rw [Nat.add_zero, h1] at h2
    cases h2
    exact ⟨.here, .here⟩
  | k + 1, i, a, b, h1, h2 => by
    have hb := (List.getElem?_eq_some_iff.mp h2).1
    have h3:nm[i + k]? = some nm[i + k]:=List.getElem?_eq_getElem (by omega)
    obtain ⟨q1, q2⟩ := chn_rch nd k i h1 h3
    obtain ⟨r1, r2⟩ := chn_step (gs := gs) nd h3 h2
    exact ⟨rch_trans q1 r1, rch_trans r2 q2⟩
theorem chn_all (nd:nm.Nodup) {x y:Str} (hx:x ∈ nm) (hy:y ∈ nm):Rch (gs ++ chn nm) x y:=by
  obtain ⟨i, hi⟩ := List.getElem?_of_mem hx
  obtain ⟨j, hj⟩ := List.getElem?_of_mem hy
  by_cases h : i ≤ j
  · exact (chn_rch nd (j - i) i hi (by rw [Nat.add_sub_cancel' h]; exact hj)).1
  · exact (chn_rch nd (i - j) j hj (by rw [Nat.add_sub_cancel' (by omega)]; exact hi)).2
theorem chn_plr (inc:Inc nm) (n2:2 ≤ nm.length) (bl:BL nm (gs ++ chn nm)):plr (gs ++ chn nm) = nm:=inc_ext (inc_srt _) inc fun x=>by
  show x ∈ plr (gs ++ chn nm) ↔ x ∈ nm
  constructor
  · exact fun hx => plr_sub bl.mem hx
  · intro hx
    obtain ⟨i, hi⟩ := List.getElem?_of_mem hx
    have hl := (List.getElem?_eq_some_iff.mp hi).1
    by_cases h : i + 1 < nm.length
    · exact mem_plr.mpr ⟨_,List.mem_append_right _ (chn_in nm i x _ hi (List.getElem?_eq_getElem h)),.inl rfl⟩
    · have e : i - 1 + 1 = i := by omega
      exact mem_plr.mpr ⟨_,List.mem_append_right _ (chn_in nm (i - 1) nm[i - 1] x (List.getElem?_eq_getElem (by omega)) (by rw [e]; exact hi)),.inr rfl⟩
end
theorem bkl_up {H H':Hp} {D:Addr} {gs:List Gm} (s:Same H H') (h:BkL H D gs):BkL H' D gs:=by
  obtain ⟨vs, e, a⟩ := h
  exact ⟨vs,s _ _ e,a.imp fun v g r=>gm_up v g _ _ (kt_of s) r⟩
theorem anc_at {nm:List Str} {j:Int} (h0:0 ≤ j) (h1:j < nm.length + 2):∃ an,atI (nm.map V.str ++ [V.str (Str.ofString "c"),V.str (Str.ofString "abcd")]) j = some (.str an):=by
  obtain ⟨i, rfl⟩ := Int.eq_ofNat_of_zero_le h0
  have hl:i < (nm ++ [Str.ofString "c",Str.ofString "abcd"]).length:=by
    rw [List.length_append]
    show i < nm.length + 2
    omega
  refine ⟨(nm ++ [Str.ofString "c",Str.ofString "abcd"])[i],atI_nat ?_⟩
  rw [show nm.map V.str ++ [V.str (Str.ofString "c"),V.str (Str.ofString "abcd")] = (nm ++ [Str.ofString "c",Str.ofString "abcd"]).map V.str by rw [List.map_append]; rfl,List.getElem?_map,List.getElem?_eq_getElem hl]
  rfl
theorem due_of {gs:List Gm} {H H':Hp} {T:Addr} (l60:(plr gs).length ≤ 60) (h:Vd gs H H' T):DueV gs H' T:=(vd_data l60 h).imp id fun ⟨d,w,F,h1,h2,_,h3,h4⟩=>⟨d,w,F,h1,h2,h3,h4⟩
theorem sc_law:FnScope ["_law_script","_law_first","_law_names","_law_games_here","_law_xs","_law_anchor","_law_scale","_law_rounds","_law_word","_law_told_here","_law_more"] ["_law_script"] (defScope s_law):=⟨rfl,rfl,rfl,by decide +kernel,rfl,by decide +kernel,by decide +kernel⟩
theorem ok_law (d:Dfn K mg "law" s_law ["_law_script"]) (er:Errs K mg c_LadderError c_NoBook c_NoFit c_NoGame c_NoNumber c_NoPlayer c_NoRow c_NoStretch c_NoTable c_NoTree c_NoWorth) (n_range:mg "range" = none) (n_len:mg "len" = none)  (c_l_right:Cal P w K mg base "_law_right" ["_law_told_here","_law_due","_law_there","_law_anchor"] 2 (sp_l_right K ns)) (c_verdict:Cal P w K mg base "verdict" ["games"] 7 (sp_verdict K ns)) (c_l_told:Cal P w K mg base "_law_told" ["_law_word","_law_games_here","_law_anchor","_law_scale","_law_rounds","_law_base"] 12 (sp_l_told K ns)) (c_l_of:Cal P w K mg base "_law_of" ["_law_games_here","_law_names"] 1 (sp_l_of K ns)) (c_l_stream:Cal P w K mg base "_law_stream" ["_law_cell","_law_salt","_law_many"] 1 (sp_l_stream K ns)) (c_l_cell_at:Cal P w K mg base "_law_cell_at" ["_law_script","_law_k"] 1 (sp_l_cell_at K ns)) (c_l_games:Cal P w K mg base "_law_games" ["_law_script","_law_names"] 2 (sp_l_games K ns)):Cal P w K mg base "law" ["_law_script"] 13 (sp_law K ns):=by
  refine d.cal (k:=12) sc_law (fun vs H Q E h=>?_) (fun f cdv A outer s H vs Q E hr h=>?_)
  · match vs, h with
    | [.ref a], _ => rfl
  · match vs, h with
    | [.ref a], hq0 =>
      obtain ⟨hS, hl, k⟩ := hq0
      refine ⟨_,(@pss_cons _ _ _ _ _ (@ps_set _ _ (1) _ _ _ _ sc_law.nd rfl (by first | exact Or.inl rfl | exact Or.inr rfl) (@e_call _ _ _ _ _ _ _ _ _ _ _ c_l_cell_at hr (by decide) (by rfl) (@pa_cons _ _ _ _ _ (dv 0) (@pa_cons _ _ _ _ _ pe_int pa_nil (by rfl)) (by rfl)) (by decide) (by rfl) (by rfl)) (by rfl) (by first | exact .inl rfl | exact .inr rfl | assumption)) (@pss_cons _ _ _ _ _ (@ps_set _ _ (2) _ _ _ _ sc_law.nd rfl (by first | exact Or.inl rfl | exact Or.inr rfl) (@pe_slice _ _ _ _ _ _ _ _ _ _ sl_lst (@e_lst _ _ _ _ (@pa_cons _ _ _ _ _ pe_str (@pa_cons _ _ _ _ _ pe_str (@pa_cons _ _ _ _ _ pe_str (@pa_cons _ _ _ _ _ pe_str (@pa_cons _ _ _ _ _ pe_str pa_nil (by rfl)) (by rfl)) (by rfl)) (by rfl)) (by rfl))) po_none (po_some (pe_op o_add pe_int (pe_op o_mod (dv 1) pe_int)))) (by rfl) (by first | exact .inl rfl | exact .inr rfl | assumption)) (@ss_cutE _ _ _ _ _ (@ps_set _ _ (3) _ _ _ _ sc_law.nd rfl (by first | exact Or.inl rfl | exact Or.inr rfl) (@e_call _ _ _ _ _ _ _ _ _ _ _ c_l_games hr (by decide) (by rfl) (@pa_cons _ _ _ _ _ (dv 0) (@pa_cons _ _ _ _ _ (dv 2) pa_nil (by rfl)) (by rfl)) (by decide) (by rfl) (by rfl)) (by rfl) (by first | exact .inl rfl | exact .inr rfl | assumption)) (@pss_cons _ _ _ _ _ (@ps_set _ _ (4) _ _ _ _ sc_law.nd rfl (by first | exact Or.inl rfl | exact Or.inr rfl) (@e_call _ _ _ _ _ _ _ _ _ _ _ c_l_stream hr (by decide) (by rfl) (@pa_cons _ _ _ _ _ (@e_call _ _ _ _ _ _ _ _ _ _ _ c_l_cell_at hr (by decide) (by rfl) (@pa_cons _ _ _ _ _ (dv 0) (@pa_cons _ _ _ _ _ pe_int pa_nil (by rfl)) (by rfl)) (by decide) (by rfl) (by rfl)) (@pa_cons _ _ _ _ _ pe_int (@pa_cons _ _ _ _ _ pe_int pa_nil (by rfl)) (by rfl)) (by rfl)) (by decide) (by rfl) (by rfl)) (by rfl) (by first | exact .inl rfl | exact .inr rfl | assumption)) (@pss_cons _ _ _ _ _ (@ps_set _ _ (5) _ _ _ _ sc_law.nd rfl (by first | exact Or.inl rfl | exact Or.inr rfl) (@pe_ix _ _ _ _ _ _ _ i_lst (@pe_op _ _ _ _ _ _ _ _ o_catL (dv 2) (@e_lst _ _ _ _ (@pa_cons _ _ _ _ _ pe_str (@pa_cons _ _ _ _ _ pe_str pa_nil (by rfl)) (by rfl)))) (@pe_op _ _ _ _ _ _ _ _ o_mod (@pe_ix _ _ _ _ _ _ _ i_lst (dv 4) pe_int (fun _ _=>rfl)) (@pe_op _ _ _ _ _ _ _ _ o_add (@pe_callB _ _ _ _ _ _ _ _ _ c_len (by rfl) n_len (by decide +kernel) (@pa_cons _ _ _ _ _ (dv 2) pa_nil (by rfl)) (by decide) (by decide) (by rfl) (by rfl)) pe_int)) (fun _ _=>rfl)) (by rfl) (by first | exact .inl rfl | exact .inr rfl | assumption)) (@pss_cons _ _ _ _ _ (@ps_set _ _ (6) _ _ _ _ sc_law.nd rfl (by first | exact Or.inl rfl | exact Or.inr rfl) (@pe_op _ _ _ _ _ _ _ _ o_add pe_int (@pe_op _ _ _ _ _ _ _ _ o_mod (@pe_ix _ _ _ _ _ _ _ i_lst (dv 4) pe_int (fun _ _=>rfl)) pe_int)) (by rfl) (by first | exact .inl rfl | exact .inr rfl | assumption)) (@ss_cutE _ _ _ _ _ (@ps_set _ _ (7) _ _ _ _ sc_law.nd rfl (by first | exact Or.inl rfl | exact Or.inr rfl) (@pe_op _ _ _ _ _ _ _ _ o_mod (@pe_ix _ _ _ _ _ _ _ i_lst (dv 4) pe_int (fun _ _=>rfl)) pe_int) (by rfl) (by first | exact .inl rfl | exact .inr rfl | assumption)) (@pss_cons _ _ _ _ _ (@ps_for _ _ _ _ _ _ _ _ PassesOwn.never rfl (@pi_list _ _ _ _ (@e_lst _ _ _ _ (@pa_cons _ _ _ _ _ (@pe_op _ _ _ _ _ _ _ _ o_mod (@pe_ix _ _ _ _ _ _ _ i_lst (dv 4) pe_int (fun _ _=>rfl)) pe_int) (@pa_cons _ _ _ _ _ (@pe_op _ _ _ _ _ _ _ _ o_mod (@pe_op _ _ _ _ _ _ _ _ o_add (@pe_ix _ _ _ _ _ _ _ i_lst (dv 4) pe_int (fun _ _=>rfl)) pe_int) pe_int) (@pa_cons _ _ _ _ _ (@pe_op _ _ _ _ _ _ _ _ o_mod (@pe_op _ _ _ _ _ _ _ _ o_add (@pe_ix _ _ _ _ _ _ _ i_lst (dv 4) pe_int (fun _ _=>rfl)) pe_int) pe_int) pa_nil (by rfl)) (by rfl)) (by rfl)))) (@pg_name _ _ (8) _ sc_law.nd rfl (by first | exact Or.inl rfl | exact Or.inr rfl) (by first | exact .inl rfl | exact .inr rfl | assumption)) (@pss_cons _ _ _ _ _ (@ps_set _ _ (9) _ _ _ _ sc_law.nd rfl (by first | exact Or.inl rfl | exact Or.inr rfl) (@e_call _ _ _ _ _ _ _ _ _ _ _ c_l_told hr (by decide) (by rfl) (@pa_cons _ _ _ _ _ (dv 8) (@pa_cons _ _ _ _ _ (dv 3) (@pa_cons _ _ _ _ _ (dv 5) (@pa_cons _ _ _ _ _ (dv 6) (@pa_cons _ _ _ _ _ (dv 7) (@pa_cons _ _ _ _ _ (@pe_cmpR _ _ _ _ _ _ _ _ o_eq (@pe_op _ _ _ _ _ _ _ _ o_mod (@pe_op _ _ _ _ _ _ _ _ o_add (@pe_ix _ _ _ _ _ _ _ i_lst (dv 4) pe_int (fun _ _=>rfl)) (dv 8)) pe_int) pe_int (@nomark _ _ (by decide) (by decide))) pa_nil (by rfl)) (by rfl)) (by rfl)) (by rfl)) (by rfl)) (by rfl)) (by decide) (by rfl) (by rfl)) (by rfl) (by first | exact .inl rfl | exact .inr rfl | assumption)) (@pss_one _ _ _ (@s_if _ _ _ _ _ _ _ _ (@pt_not _ _ _ _ (@t_val _ _ _ (@e_call _ _ _ _ _ _ _ _ _ _ _ c_l_right hr (by decide) (by rfl) (@pa_cons _ _ _ _ _ (dv 9) (@pa_cons _ _ _ _ _ (@e_call _ _ _ _ _ _ _ _ _ _ _ c_verdict hr (by decide) (by rfl) (@pa_cons _ _ _ _ _ (dv 3) pa_nil (by rfl)) (by decide) (by rfl) (by rfl)) (@pa_cons _ _ _ _ _ (@e_call _ _ _ _ _ _ _ _ _ _ _ c_l_of hr (by decide) (by rfl) (@pa_cons _ _ _ _ _ (dv 3) (@pa_cons _ _ _ _ _ (dv 2) pa_nil (by rfl)) (by rfl)) (by decide) (by rfl) (by rfl)) (@pa_cons _ _ _ _ _ (dv 5) pa_nil (by rfl)) (by rfl)) (by rfl)) (by rfl)) (by decide) (by rfl) (by rfl)) (by intro _; rfl))) (@pss_one _ _ _ (@ps_ret _ _ _ _ pe_bl)) pss_nil))) (by intro _; rfl)) (@ss_cutE _ _ _ _ _ (@ps_set _ _ (10) _ _ _ _ sc_law.nd rfl (by first | exact Or.inl rfl | exact Or.inr rfl) (@pe_op _ _ _ _ _ _ _ _ o_catL (dv 3) (@e_compN _ _ _ _ _ _ _ _ _ _ ["_law_k"] ["_law_names"] [2] rfl (@pi_range2 _ _ _ _ _ _ _ (by rfl) n_range (@pa_cons _ _ _ _ _ pe_int (@pa_cons _ _ _ _ _ (@pe_callB _ _ _ _ _ _ _ _ _ c_len (by rfl) n_len (by decide +kernel) (@pa_cons _ _ _ _ _ (dv 2) pa_nil (by rfl)) (by decide) (by decide) (by rfl) (by rfl)) pa_nil (by rfl)) (by rfl)) (by rfl) (by rfl)) (fun C s H fp=>(@pg_name _ _ (0) _ (show List.Nodup [("_law_k":Str),("_law_names":Str)] by decide +kernel) rfl (by first | exact Or.inl rfl | exact Or.inr rfl) (by first | exact .inl rfl | exact .inr rfl | assumption))) (fun C s H fp=>(@e_tup _ _ _ _ _ (@pa_cons _ _ _ _ _ pe_int (@pa_cons _ _ _ _ _ (@pe_ix _ _ _ _ _ _ _ (show IxR _ (dIxL K) from i_lst) (dv 1) (@pe_op _ _ _ _ _ _ _ _ o_sub (dv 0) pe_int) (fun _ _=>rfl)) (@pa_cons _ _ _ _ _ (@pe_ix _ _ _ _ _ _ _ (show IxR _ (dIxL K) from i_lst) (dv 1) (dv 0) (fun _ _=>rfl)) (@pa_cons _ _ _ _ _ pe_int (@pa_cons _ _ _ _ _ pe_int pa_nil (by rfl)) (by rfl)) (by rfl)) (by rfl)) (by rfl)))) rfl rfl (by decide +kernel) (by decide +kernel) (by rfl) ⟨rfl,True.intro⟩ ⟨⟨rfl,rfl,rfl,rfl⟩,True.intro⟩ (by intro _; rfl))) (by rfl) (by first | exact .inl rfl | exact .inr rfl | assumption)) (@pss_cons _ _ _ _ _ (@ps_for _ _ _ _ _ _ _ _ PassesOwn.never rfl (@pi_list _ _ _ _ (@e_lst _ _ _ _ (@pa_cons _ _ _ _ _ (@pe_op _ _ _ _ _ _ _ _ o_mod (@pe_ix _ _ _ _ _ _ _ i_lst (dv 4) pe_int (fun _ _=>rfl)) pe_int) (@pa_cons _ _ _ _ _ (@pe_op _ _ _ _ _ _ _ _ o_mod (@pe_op _ _ _ _ _ _ _ _ o_div (@pe_ix _ _ _ _ _ _ _ i_lst (dv 4) pe_int (fun _ _=>rfl)) pe_int) pe_int) pa_nil (by rfl)) (by rfl)))) (@pg_name _ _ (8) _ sc_law.nd rfl (by first | exact Or.inl rfl | exact Or.inr rfl) (by first | exact .inl rfl | exact .inr rfl | assumption)) (@pss_cons _ _ _ _ _ (@ps_set _ _ (9) _ _ _ _ sc_law.nd rfl (by first | exact Or.inl rfl | exact Or.inr rfl) (@e_call _ _ _ _ _ _ _ _ _ _ _ c_l_told hr (by decide) (by rfl) (@pa_cons _ _ _ _ _ (dv 8) (@pa_cons _ _ _ _ _ (dv 10) (@pa_cons _ _ _ _ _ (dv 5) (@pa_cons _ _ _ _ _ (dv 6) (@pa_cons _ _ _ _ _ (dv 7) (@pa_cons _ _ _ _ _ (@pe_cmpR _ _ _ _ _ _ _ _ o_eq (@pe_op _ _ _ _ _ _ _ _ o_mod (@pe_op _ _ _ _ _ _ _ _ o_div (@pe_ix _ _ _ _ _ _ _ i_lst (dv 4) pe_int (fun _ _=>rfl)) pe_int) pe_int) pe_int (@nomark _ _ (by decide) (by decide))) pa_nil (by rfl)) (by rfl)) (by rfl)) (by rfl)) (by rfl)) (by rfl)) (by decide) (by rfl) (by rfl)) (by rfl) (by first | exact .inl rfl | exact .inr rfl | assumption)) (@pss_one _ _ _ (@s_if _ _ _ _ _ _ _ _ (@L2.PW.pt _ _ _ (@w_or _ _ _ _ _ _ _ (@t_cmp _ _ _ _ _ _ _ _ o_ne (@pe_ix _ _ _ _ _ _ _ i_tup (@e_call _ _ _ _ _ _ _ _ _ _ _ c_verdict hr (by decide) (by rfl) (@pa_cons _ _ _ _ _ (dv 10) pa_nil (by rfl)) (by decide) (by rfl) (by rfl)) pe_int (fun _ _=>rfl)) pe_str (@nomark _ _ (by decide) (by decide))) (@pw_or1 _ _ _ _ (@pt_not _ _ _ _ (@t_val _ _ _ (@e_call _ _ _ _ _ _ _ _ _ _ _ c_l_right hr (by decide) (by rfl) (@pa_cons _ _ _ _ _ (dv 9) (@pa_cons _ _ _ _ _ (@e_tup _ _ _ _ _ (@pa_cons _ _ _ _ _ pe_str (@pa_cons _ _ _ _ _ (@e_lst _ _ _ _ pa_nil) pa_nil (by rfl)) (by rfl))) (@pa_cons _ _ _ _ _ (dv 2) (@pa_cons _ _ _ _ _ (dv 5) pa_nil (by rfl)) (by rfl)) (by rfl)) (by rfl)) (by decide) (by rfl) (by rfl)) (by intro _; rfl)))))) (@pss_one _ _ _ (@ps_ret _ _ _ _ pe_bl)) pss_nil))) (by intro _; rfl)) (@pss_one _ _ _ (@ps_ret _ _ _ _ pe_bl)))))))))))),?_⟩
      refine ⟨hS, by decide, fun c0 => ?_⟩
      have d4 : (0 : Int) < 4 := by decide
      have c1:=Int.emod_nonneg c0 (show (4:Int) ≠ 0 by decide)
      have c2 := Int.emod_lt_of_pos c0 d4
      intro L0 H0 s0 e0
      refine ⟨d4,_,rfl,_,SqL.of e0,fun N H1 s1 e1=>?_⟩
      have e1:H1 N = some (.lst ((nm5.take (2 + c0 % 4).toNat).map V.str)):=e1.trans (congrArg (fun l=>some (HO.lst l)) (cut_take5 (by omega) (by omega)))
      obtain ⟨nm,enm⟩:∃ nm,nm = nm5.take (2 + c0 % 4).toNat:=⟨_,rfl⟩
      have inm : Inc nm := enm ▸ nm5_inc _
      have lnm:nm.length = (2 + c0 % 4).toNat:=by rw [enm,List.length_take]; show min _ 5 = _; omega
      have snm:∀ z ∈ nm,PyData.strOk z = true:=fun z hz=>by
        rw [enm] at hz
        have hz := List.mem_of_mem_take hz
        simp only [nm5,List.mem_cons,List.not_mem_nil,or_false] at hz
        rcases hz with rfl | rfl | rfl | rfl | rfl <;> decide +kernel
      rw [← enm] at e1
      clear enm
      have s1 := s0.trans s1
      clear e0 s0
      have nd := inc_nodup inm
      refine ⟨fun σ H'=>∃ (D:Addr) (gs:List Gm),σ = [some (.ref a),some (.int c0),some (.ref N),some (.ref D),none,none,none,none,none,none,none]∧Same H H'∧H' N = some (.lst (nm.map V.str))∧BkL H' D gs∧BL nm gs∧gs.length ≤ 14,
        ⟨nm,⟨s1.seq hS,SqL.of e1,nd,by omega,by omega,by omega⟩,fun D gs H' s2 _ b1 bl sd l14=>⟨D,gs,rfl,s1.trans s2,s2 _ _ e1,b1,bl,l14⟩⟩,?_⟩
      clear e1 s1
      rintro σ H1 ⟨D, gs, rfl, s1, e1, bG, bl, l14⟩
      have hS1 := s1.seq hS
      have pl60:(plr gs).length ≤ 60:=Nat.le_trans (plr_len bl.mem) (by omega)
      refine ⟨hS1,by decide,fun cc=>⟨⟨⟨by decide,by decide⟩,by decide,by decide⟩,fun X xs H2 s2 _ e2 lx bx=>?_⟩⟩
      obtain ⟨x0,h0,a0,_⟩:=bx.g 0 (by decide) (by omega)
      obtain ⟨x1,h1,a1,_⟩:=bx.g 1 (by decide) (by omega)
      obtain ⟨x2,h2,a2,_⟩:=bx.g 2 (by decide) (by omega)
      obtain ⟨x3,h3,a3,_⟩:=bx.g 3 (by decide) (by omega)
      obtain ⟨x4,h4,a4,_⟩:=bx.g 4 (by decide) (by omega)
      refine fun L3 H3 s3 e3=>⟨_,_,s3 _ _ (s2 _ _ e1),e3,by rw [List.length_map]; show nm.length + 2 ≤ 1000; omega,fun p4 H4 s4 e4=>?_⟩
      have s24 := s3.trans s4
      have s14 := s2.trans s24
      have lm:((nm.map V.str).length:Int) = nm.length:=by rw [List.length_map]
      have hp:(0:Int) < (nm.map V.str).length + 2:=by omega
      obtain ⟨an,han⟩:=anc_at (nm:=nm) (j:=x0 % ((nm.map V.str).length + 2)) (Int.emod_nonneg _ (by omega)) (by have:=Int.emod_lt_of_pos x0 hp; omega)
      refine ⟨_,_,SqL.of (s24 _ _ e2),h0,_,.inl (SqL.of (s14 _ _ e1)),hp,_,_,SqL.of e4,han,?_⟩
      refine ⟨_,_,SqL.of (s24 _ _ e2),h1,(by show (0:Int) < 1000; decide),?_⟩
      have m10:=Int.emod_nonneg x1 (show (1000:Int) ≠ 0 by decide)
      have m11:=Int.emod_lt_of_pos x1 (show (0:Int) < 1000 by decide)
      have m20:=Int.emod_nonneg x2 (show (3:Int) ≠ 0 by decide)
      have m21:=Int.emod_lt_of_pos x2 (show (0:Int) < 3 by decide)
      refine ⟨fun σ H'=>∃ sc rd:Int,σ = [some (.ref a),some (.int c0),some (.ref N),some (.ref D),some (.ref X),some (.str an),some (.int sc),some (.int rd),none,none,none]∧Same H1 H'∧H' X = some (.lst (xs.map V.int))∧(1 ≤ sc∧sc ≤ 100000)∧(0 ≤ rd∧rd ≤ 100),
        ⟨_,_,SqL.of (s24 _ _ e2),h2,(by show (0:Int) < 3; decide),_,_,rfl,s14,s24 _ _ e2,⟨by omega,by omega⟩,⟨by omega,by omega⟩⟩,?_⟩
      clear e4 e3 han s24 s14 s4 s3 m10 m11 m20 m21 h0 h1 h2 e2 s2
      rintro σ H2 ⟨sc, rd, rfl, s2, e2, hsc, hrd⟩
      have e1 := s2 _ _ e1
      have bG := bkl_up s2 bG
      have s2 := s1.trans s2
      clear s1
      refine ⟨_,_,SqL.of e2,h3,(by show (0:Int) < 3; decide),_,_,SqL.of e2,h3,(by show (0:Int) < 3; decide),_,_,SqL.of e2,h3,(by show (0:Int) < 3; decide),?_⟩
      refine fun L5 H5 s5 e5=>⟨L5,rfl,⟨_,SqL.of e5⟩,for_list (K:=K) (a:=L5) (xs:=[V.int (x3 % 3),V.int ((x3 + 1) % 3),V.int ((x3 + 2) % 3)]) (fun i σ Hx=>∃ o8 o9:Option V,σ = [some (.ref a),some (.int c0),some (.ref N),some (.ref D),some (.ref X),some (.str an),some (.int sc),some (.int rd),o8,o9,none]∧Same H5 Hx) ⟨_,_,rfl,Same.refl _⟩ (fun i σ Hx _ ⟨_,_,_,sx⟩=>SqL.of (sx _ _ e5)) ?_ ?_⟩
      · rintro i v σ Hx hv ⟨o8, o9, rfl, sx⟩
        obtain ⟨w, rfl⟩ : ∃ w, v = V.int w := by
          match i, hv with
          | 0, hv => cases hv; exact ⟨_, rfl⟩
          | 1, hv => cases hv; exact ⟨_, rfl⟩
          | 2, hv => cases hv; exact ⟨_, rfl⟩
          | j + 3, hv => simp at hv
        have s2x := s5.trans sx
        have b1 := bkl_up s2x bG
        refine ⟨_,_,SqL.of (s2x _ _ e2),h4,(by show (0:Int) < 2; decide),?_⟩
        refine ⟨gs,nm,⟨b1.bk (by omega),bl,by omega,snm,by omega⟩,hsc,hrd,fun T x y H6 s6 e6 o6=>?_⟩
        have b6 := bkl_up s6 b1
        refine ⟨gs,nm,⟨b6.bk (by omega),bl.mem,by omega,snm⟩,fun T7 H7 s7 vd=>?_⟩
        refine ⟨gs,nm,⟨bkl_up s7 b6,bl,by omega⟩,⟨(s2x.trans (s6.trans s7)) _ _ e1,inm,by omega⟩,fun U H8 s8 e8=>?_⟩
        refine ⟨gs,x,y,nm,⟨(s7.trans s8) _ _ e6,o6.up (s7.trans s8)⟩,(due_of pl60 vd).up s8,⟨bl,snm,by omega⟩,SqL.of e8,?_⟩
        exact ⟨fun h=>nb h,fun _=>⟨_,_,rfl,sx.trans (s6.trans (s7.trans s8))⟩⟩
      rintro σ Hx ⟨o8, o9, rfl, sx⟩
      have s2x := s5.trans sx
      have e1 := s2x _ _ e1
      have e2 := s2x _ _ e2
      have bG := bkl_up s2x bG
      have s2 := s2.trans s2x
      clear e5 s5 sx s2x h3
      obtain ⟨gv, eg, ag⟩ := id bG
      refine ⟨fun σ H'=>∃ M:Addr,σ = [some (.ref a),some (.int c0),some (.ref N),some (.ref D),some (.ref X),some (.str an),some (.int sc),some (.int rd),o8,o9,some (.ref M)]∧Same Hx H'∧BkL H' M (gs ++ chn nm),?_,?_⟩
      · refine ⟨_,.inl (SqL.of e1),_,_,rfl,⟨by decide,by decide,by rw [List.length_map]; omega,by rw [List.length_map]; omega⟩,comp_rngQ (lo:=1) (n:=(((nm.map V.str).length:Int) - 1).toNat) (fun H j y=>∀ a b,nm[j]? = some a→nm[j + 1]? = some b→GmAt H y ⟨3,a,b,1,0⟩) (fun j y H H' kt h a b h1 h2=>gm_up y _ H H' kt (h a b h1 h2)) (by rw [List.length_map]; omega) ?_ ?_⟩
        · intro i H6 hi s6 P hP
          rw [List.length_map] at hi
          have i1 : i < nm.length := by omega
          have i2 : i + 1 < nm.length := by omega
          refine ⟨rfl,_,.str nm[i],SqL.of (s6 _ _ e1),?_,_,.str nm[i + 1],SqL.of (s6 _ _ e1),?_,fun T H7 s7 e7=>hP _ H7 s7 fun a b h1 h2=>⟨T,rfl,?_⟩⟩
          · rw [show (1 + (i:Int) - 1) = (i:Int) by omega]
            refine atI_nat ?_
            rw [List.getElem?_map,List.getElem?_eq_getElem i1]
            rfl
          · rw [show (1 + (i:Int)) = ((i + 1:Nat):Int) by omega]
            refine atI_nat ?_
            rw [List.getElem?_map,List.getElem?_eq_getElem i2]
            rfl
          · rw [List.getElem?_eq_getElem i1] at h1
            rw [List.getElem?_eq_getElem i2] at h2
            cases h1
            cases h2
            exact e7
        · intro E6 H6 ys s6 n6 e6 ly ar
          have l1 : ys.length = (chn nm).length := by
            rw [ly, chn_len, List.length_map]
            omega
          refine ⟨gv,ys,s6 _ _ eg,e6,by rw [l1,chn_len,ag.len]; omega,fun M H7 s7 e7=>⟨M,rfl,s6.trans s7,gv ++ ys,e7,all2_app (ag.imp fun v g r=>gm_up v g _ _ (kt_of (s6.trans s7)) r) (all2_ix l1 fun j y m h1 h2=>?_)⟩⟩
          obtain ⟨x, z, q1, q2, rfl⟩ := chn_at nm j m h2
          exact gm_up y _ _ _ (kt_of s7) (ar j y h1 x z q1 q2)
      rintro σ H3 ⟨M, rfl, s3, bM⟩
      have e1 := s3 _ _ e1
      have e2 := s3 _ _ e2
      have blM : BL nm (gs ++ chn nm) := chn_bl nd bl
      have pM:plr (gs ++ chn nm) = nm:=chn_plr inm (by omega) blM
      have aM:AllR (gs ++ chn nm):=fun x hx y hy=>chn_all nd (pM ▸ hx) (pM ▸ hy)
      have nM : plr (gs ++ chn nm) ≠ [] := fun z => by
        rw [pM] at z
        rw [z] at lnm
        simp at lnm
        omega
      have lM : (gs ++ chn nm).length ≤ 60 := by
        rw [List.length_append, chn_len]
        omega
      have fM := fit_of aM nM
      refine ⟨_,_,SqL.of e2,h4,(by show (0:Int) < 3; decide),_,_,SqL.of e2,h4,⟨by decide,bd_lit rfl⟩,(by show (0:Int) < 3; decide),?_⟩
      refine fun L5 H5 s5 e5=>⟨L5,rfl,⟨_,SqL.of e5⟩,for_list (K:=K) (a:=L5) (xs:=[V.int (x4 % 3),V.int (x4 / 3 % 3)]) (fun i σ Hx=>∃ o8 o9:Option V,σ = [some (.ref a),some (.int c0),some (.ref N),some (.ref D),some (.ref X),some (.str an),some (.int sc),some (.int rd),o8,o9,some (.ref M)]∧Same H5 Hx) ⟨_,_,rfl,Same.refl _⟩ (fun i σ Hx _ ⟨_,_,_,sx⟩=>SqL.of (sx _ _ e5)) ?_ ?_⟩
      · rintro i v σ Hx hv ⟨o8, o9, rfl, sx⟩
        obtain ⟨w, rfl⟩ : ∃ w, v = V.int w := by
          match i, hv with
          | 0, hv => cases hv; exact ⟨_, rfl⟩
          | 1, hv => cases hv; exact ⟨_, rfl⟩
          | j + 2, hv => simp at hv
        have s2x := s5.trans sx
        have b1 := bkl_up s2x bM
        refine ⟨_,_,SqL.of (s2x _ _ e2),h4,⟨by decide,bd_lit rfl⟩,(by show (0:Int) < 2; decide),?_⟩
        refine ⟨gs ++ chn nm,nm,⟨b1.bk (by omega),blM,by omega,snm,lM⟩,hsc,hrd,fun T x y H6 s6 e6 o6=>?_⟩
        have b6 := bkl_up s6 b1
        refine ⟨gs ++ chn nm,nm,⟨b6.bk (by omega),blM.mem,by omega,snm⟩,fun T7 H7 s7 vd=>?_⟩
        rcases vd_data (by rw [pM]; omega) vd with ⟨_,F,eF⟩ | ⟨dt,_,_,hv,_⟩
        · refine ⟨_,eF,⟨fun h=>absurd h (by decide),fun _=>?_⟩⟩
          refine fun L8 H8 s8 e8 T9 H9 s9 e9 => ?_
          have s79 := s7.trans (s8.trans s9)
          refine ⟨gs ++ chn nm,x,y,nm,⟨s79 _ _ e6,o6.up s79⟩,.inl ⟨fM,L8,e9⟩,⟨blM,snm,by omega⟩,?_,?_⟩
          · rw [pM]
            exact SqL.of ((s2x.trans (s6.trans s79)) _ _ e1)
          · exact ⟨fun h=>nb h,fun _=>⟨_,_,rfl,sx.trans (s6.trans s79)⟩⟩
        · exact absurd fM hv.nofit
      rintro σ Hx ⟨o8, o9, rfl, sx⟩
      exact k Hx
end
theorem lenE1:∀ us:List Value,us.length = 1→∃ y0:Value,us = [y0]
  | [y0], _ => ⟨_, rfl⟩
theorem lenE2:∀ us:List Value,us.length = 2→∃ y0 y1:Value,us = [y0,y1]
  | [y0, y1], _ => ⟨_, _, rfl⟩
theorem lenE3:∀ us:List Value,us.length = 3→∃ y0 y1 y2:Value,us = [y0,y1,y2]
  | [y0, y1, y2], _ => ⟨_, _, _, rfl⟩
theorem lenE4:∀ us:List Value,us.length = 4→∃ y0 y1 y2 y3:Value,us = [y0,y1,y2,y3]
  | [y0, y1, y2, y3], _ => ⟨_, _, _, _, rfl⟩
theorem lenE5:∀ us:List Value,us.length = 5→∃ y0 y1 y2 y3 y4:Value,us = [y0,y1,y2,y3,y4]
  | [y0, y1, y2, y3, y4], _ => ⟨_, _, _, _, _, rfl⟩
theorem lenE6:∀ us:List Value,us.length = 6→∃ y0 y1 y2 y3 y4 y5:Value,us = [y0,y1,y2,y3,y4,y5]
  | [y0, y1, y2, y3, y4, y5], _ => ⟨_, _, _, _, _, _, rfl⟩
theorem dmk {K:PySem.W.Frag} {h:Heap} {mg:Str→Option Value} {x:Str} {st:Stmt} {ps:List Str} {f:Addr} {od an:Option Addr} {sl:Array (Option Value)} {oc kV dc pm cd ct:Value} (X:K.In h) (G:h.Ns mainGlobals mg) (a:PySem.W.nsIn K mainGlobals x = some (some (.ref f))) (l:K.lookup f = some ⟨oc,od,.func (PySem.W.fnOf x x (defArgs st) (defBody st) (defScope st) .none kV dc pm an cd ct),sl⟩) (e:PySem.W.codeIn K cd x = true) (k:PySem.W.keepIn K (.ref f) = true) (hb:∀ (kV doc pm:Value) (an:Option Addr) (cdv ct:Value) (us:List Value),us.length = ps.length→bindArgs (PySem.W.fnOf x x (defArgs st) (defBody st) (defScope st) .none kV doc pm an cdv ct) ⟨us,[]⟩ = pure (ps.zip us)):Dfn K mg x st ps:=⟨⟨_,_,fun_mk l e k,PySem.W.mg_of X G a,(fun_mk l e k).binds hb⟩⟩
theorem mmk {K:PySem.W.Frag} {x q:Str} {Cs Ds:List Addr} {st:Stmt} {ps:List Str} {f:Addr} {od an:Option Addr} {sl:Array (Option Value)} {oc kV dc pm cd ct:Value} (A:∀ C ∈ Cs,Meth K C x f) (B:∀ C ∈ Ds,PySem.W.findCls K (.ref C) (.type "type") x = some (.val (.ref f))) (l:K.lookup f = some ⟨oc,od,.func (PySem.W.fnOf x q (defArgs st) (defBody st) (defScope st) .none kV dc pm an cd ct),sl⟩) (e:PySem.W.codeIn K cd q = true) (k:PySem.W.keepIn K (.ref f) = true) (hb:∀ (kV doc pm:Value) (an:Option Addr) (cdv ct:Value) (us:List Value),us.length = ps.length→bindArgs (PySem.W.fnOf x q (defArgs st) (defBody st) (defScope st) .none kV doc pm an cdv ct) ⟨us,[]⟩ = pure (ps.zip us)):DfnM K Cs Ds x q st ps:=⟨⟨_,_,fun_mk l e k,A,B,(fun_mk l e k).binds hb⟩⟩
theorem all_mk {l:PySem.W.OpenLaw} {w:World} {K:PySem.W.Frag} {h:Heap} {mg:Str→Option Value} {fa:Addr} {f18:Addr} {od18 an18:Option Addr} {sl18:Array (Option Value)} {oc18 kV18 dc18 pm18 cd18 ct18:Value} {dT18:Addr} {dc18t:Value} {dd18:Option Addr} {dn18:Nat} {ds18:Array (Option Value)} {f19:Addr} {od19 an19:Option Addr} {sl19:Array (Option Value)} {oc19 kV19 dc19 pm19 cd19 ct19:Value} {dT19:Addr} {dc19t:Value} {dd19:Option Addr} {dn19:Nat} {ds19:Array (Option Value)} {f22:Addr} {od22 an22:Option Addr} {sl22:Array (Option Value)} {oc22 kV22 dc22 pm22 cd22 ct22:Value} {dT22:Addr} {dc22t:Value} {dd22:Option Addr} {dn22:Nat} {ds22:Array (Option Value)} {f23:Addr} {od23 an23:Option Addr} {sl23:Array (Option Value)} {oc23 kV23 dc23 pm23 cd23 ct23:Value} {dT23:Addr} {dc23t:Value} {dd23:Option Addr} {dn23:Nat} {ds23:Array (Option Value)} {f28:Addr} {od28 an28:Option Addr} {sl28:Array (Option Value)} {oc28 kV28 dc28 pm28 cd28 ct28:Value} {dT28:Addr} {dc28t:Value} {dd28:Option Addr} {dn28:Nat} {ds28:Array (Option Value)} {f37:Addr} {od37 an37:Option Addr} {sl37:Array (Option Value)} {oc37 kV37 dc37 pm37 cd37 ct37:Value} {c_LadderError c_NoBook c_NoFit c_NoGame c_NoNumber c_NoPlayer c_NoRow c_NoStretch c_NoTable c_NoTree c_NoWorth:Addr} (X:K.In h) (G:h.Ns mainGlobals mg) (hfa:mg "law" = some (.ref fa)) (d_NoFit___init__:DfnM K [c_NoFit] [] "__init__" "NoFit.__init__" s_NoFit___init__ ["self","verdict"]) (d_copied:Dfn K mg "copied" s_copied ["thing"]) (d_is_whole:Dfn K mg "is_whole" s_is_whole ["thing"]) (d_fraction:Dfn K mg "fraction" s_fraction ["top","bottom"]) (d_greatest_divisor:Dfn K mg "greatest_divisor" s_greatest_divisor ["one","other"]) (d_under:Dfn K mg "under" s_under ["one","other"]) (d_turned:Dfn K mg "turned" s_turned ["played"]) (d_players:Dfn K mg "players" s_players ["games"]) (d_told_by:Dfn K mg "told_by" s_told_by ["games","name"]) (d_check_player:Dfn K mg "check_player" s_check_player ["games","name"]) (d_takers:Dfn K mg "takers" s_takers ["games","name"]) (d_above:Dfn K mg "above" s_above ["games","name"]) (d_ways_from:Dfn K mg "ways_from" s_ways_from ["games","name"]) (d_verdict:Dfn K mg "verdict" s_verdict ["games"]) (d_joined:Dfn K mg "joined" s_joined ["games"]) (d_stretch:Dfn K mg "stretch" s_stretch ["low","high"]) (d_odds:Dfn K mg "odds" s_odds ["worth","other","side","edge"]) (d_own_sum:Dfn K mg "own_sum" s_own_sum ["told","worth","named","edge"]) (a18:PySem.W.nsIn K mainGlobals "raised" = some (some (.ref f18))) (l18:K.lookup f18 = some ⟨oc18,od18,.func (PySem.W.fnOf "raised" "raised" (defArgs s_raised) (defBody s_raised) (defScope s_raised) (.ref dT18) kV18 dc18 pm18 an18 cd18 ct18),sl18⟩) (t18:K.lookup dT18 = some ⟨dc18t,dd18,.seq #[.none] dn18,ds18⟩) (e18:PySem.W.codeIn K cd18 "raised" = true) (k18:PySem.W.keepIn K (.ref f18) = true) (a19:PySem.W.nsIn K mainGlobals "lowered" = some (some (.ref f19))) (l19:K.lookup f19 = some ⟨oc19,od19,.func (PySem.W.fnOf "lowered" "lowered" (defArgs s_lowered) (defBody s_lowered) (defScope s_lowered) (.ref dT19) kV19 dc19 pm19 an19 cd19 ct19),sl19⟩) (t19:K.lookup dT19 = some ⟨dc19t,dd19,.seq #[.none] dn19,ds19⟩) (e19:PySem.W.codeIn K cd19 "lowered" = true) (k19:PySem.W.keepIn K (.ref f19) = true) (d_first_number:Dfn K mg "first_number" s_first_number ["games","numbers","name","edge","least_top","last"]) (d_named_numbers:Dfn K mg "named_numbers" s_named_numbers ["games","numbers"]) (a22:PySem.W.nsIn K mainGlobals "uppers" = some (some (.ref f22))) (l22:K.lookup f22 = some ⟨oc22,od22,.func (PySem.W.fnOf "uppers" "uppers" (defArgs s_uppers) (defBody s_uppers) (defScope s_uppers) (.ref dT22) kV22 dc22 pm22 an22 cd22 ct22),sl22⟩) (t22:K.lookup dT22 = some ⟨dc22t,dd22,.seq #[.none] dn22,ds22⟩) (e22:PySem.W.codeIn K cd22 "uppers" = true) (k22:PySem.W.keepIn K (.ref f22) = true) (a23:PySem.W.nsIn K mainGlobals "lowers" = some (some (.ref f23))) (l23:K.lookup f23 = some ⟨oc23,od23,.func (PySem.W.fnOf "lowers" "lowers" (defArgs s_lowers) (defBody s_lowers) (defScope s_lowers) (.ref dT23) kV23 dc23 pm23 an23 cd23 ct23),sl23⟩) (t23:K.lookup dT23 = some ⟨dc23t,dd23,.seq #[.none] dn23,ds23⟩) (e23:PySem.W.codeIn K cd23 "lowers" = true) (k23:PySem.W.keepIn K (.ref f23) = true) (d_check_fit:Dfn K mg "check_fit" s_check_fit ["games","anchor"]) (d_first_numbers:Dfn K mg "first_numbers" s_first_numbers ["games","anchor","scale","others"]) (d_after_rounds:Dfn K mg "after_rounds" s_after_rounds ["games","anchor","first","rounds","edge","moved"]) (d_tops_but:Dfn K mg "tops_but" s_tops_but ["games","anchor","numbers","edge"]) (a28:PySem.W.nsIn K mainGlobals "ends" = some (some (.ref f28))) (l28:K.lookup f28 = some ⟨oc28,od28,.func (PySem.W.fnOf "ends" "ends" (defArgs s_ends) (defBody s_ends) (defScope s_ends) (.ref dT28) kV28 dc28 pm28 an28 cd28 ct28),sl28⟩) (t28:K.lookup dT28 = some ⟨dc28t,dd28,.seq #[.none] dn28,ds28⟩) (e28:PySem.W.codeIn K cd28 "ends" = true) (k28:PySem.W.keepIn K (.ref f28) = true) (d_l_cell_at:Dfn K mg "_law_cell_at" s_l_cell_at ["_law_script","_law_k"]) (d_l_stream:Dfn K mg "_law_stream" s_l_stream ["_law_cell","_law_salt","_law_many"]) (d_l_games:Dfn K mg "_law_games" s_l_games ["_law_script","_law_names"]) (d_l_no_other:Dfn K mg "_law_no_other" s_l_no_other ["_law_error"]) (d_l_asked:Dfn K mg "_law_asked" s_l_asked ["_law_word","_law_games_here","_law_anchor","_law_scale","_law_rounds"]) (d_l_told:Dfn K mg "_law_told" s_l_told ["_law_word","_law_games_here","_law_anchor","_law_scale","_law_rounds","_law_base"]) (d_l_right:Dfn K mg "_law_right" s_l_right ["_law_told_here","_law_due","_law_there","_law_anchor"]) (d_l_of:Dfn K mg "_law_of" s_l_of ["_law_games_here","_law_names"]) (a37:PySem.W.nsIn K mainGlobals "law" = some (some (.ref f37))) (l37:K.lookup f37 = some ⟨oc37,od37,.func (PySem.W.fnOf "law" "law" (defArgs s_law) (defBody s_law) (defScope s_law) .none kV37 dc37 pm37 an37 cd37 ct37),sl37⟩) (e37:PySem.W.codeIn K cd37 "law" = true) (k37:PySem.W.keepIn K (.ref f37) = true) (er:Errs K mg c_LadderError c_NoBook c_NoFit c_NoGame c_NoNumber c_NoPlayer c_NoRow c_NoStretch c_NoTable c_NoTree c_NoWorth) (n_ValueError:mg "ValueError" = none) (n_abs:mg "abs" = none) (n_all:mg "all" = none) (n_any:mg "any" = none) (n_bool:mg "bool" = none) (n_dict:mg "dict" = none) (n_enumerate:mg "enumerate" = none) (n_int:mg "int" = none) (n_isinstance:mg "isinstance" = none) (n_len:mg "len" = none) (n_list:mg "list" = none) (n_min:mg "min" = none) (n_range:mg "range" = none) (n_set:mg "set" = none) (n_sorted:mg "sorted" = none) (n_tuple:mg "tuple" = none) (n_zip:mg "zip" = none) (v_MOST:Cst mg "MOST" (.int (100000))) :
    ∃ fd:FuncData,(∀ (s:Shared) (v:Value),BindsTo s fd ⟨[v],[]⟩ [("_law_script",v)])∧∀ base:Heap,K.In base→base.Ns mainGlobals mg→FnOk l.prog w K mg base (CXE l.prog w) 13 fa fd ["_law_script"] (sp_lawA K):=by
  have d_raised:DfnN K mg "raised" s_raised ["games","numbers","name","edge"]:=dfnN_mk (st:=s_raised) l18 t18 rfl e18 k18 (PySem.W.mg_of X G a18) (fun us hl=>by obtain ⟨_,_,_,_,rfl⟩:=lenE4 us hl; exact ⟨_,rfl,rfl⟩) (fun us hl=>by obtain ⟨_,_,_,rfl⟩:=lenE3 us (by simpa using hl); exact ⟨_,rfl,rfl⟩)
  have d_lowered:DfnN K mg "lowered" s_lowered ["games","numbers","name","edge"]:=dfnN_mk (st:=s_lowered) l19 t19 rfl e19 k19 (PySem.W.mg_of X G a19) (fun us hl=>by obtain ⟨_,_,_,_,rfl⟩:=lenE4 us hl; exact ⟨_,rfl,rfl⟩) (fun us hl=>by obtain ⟨_,_,_,rfl⟩:=lenE3 us (by simpa using hl); exact ⟨_,rfl,rfl⟩)
  have d_uppers:DfnN K mg "uppers" s_uppers ["games","anchor","scale","rounds","edge"]:=dfnN_mk (st:=s_uppers) l22 t22 rfl e22 k22 (PySem.W.mg_of X G a22) (fun us hl=>by obtain ⟨_,_,_,_,_,rfl⟩:=lenE5 us hl; exact ⟨_,rfl,rfl⟩) (fun us hl=>by obtain ⟨_,_,_,_,rfl⟩:=lenE4 us (by simpa using hl); exact ⟨_,rfl,rfl⟩)
  have d_lowers:DfnN K mg "lowers" s_lowers ["games","anchor","scale","rounds","edge"]:=dfnN_mk (st:=s_lowers) l23 t23 rfl e23 k23 (PySem.W.mg_of X G a23) (fun us hl=>by obtain ⟨_,_,_,_,_,rfl⟩:=lenE5 us hl; exact ⟨_,rfl,rfl⟩) (fun us hl=>by obtain ⟨_,_,_,_,rfl⟩:=lenE4 us (by simpa using hl); exact ⟨_,rfl,rfl⟩)
  have d_ends:DfnN K mg "ends" s_ends ["games","anchor","scale","rounds","edge"]:=dfnN_mk (st:=s_ends) l28 t28 rfl e28 k28 (PySem.W.mg_of X G a28) (fun us hl=>by obtain ⟨_,_,_,_,_,rfl⟩:=lenE5 us hl; exact ⟨_,rfl,rfl⟩) (fun us hl=>by obtain ⟨_,_,_,_,rfl⟩:=lenE4 us (by simpa using hl); exact ⟨_,rfl,rfl⟩)
  have F37 := fun_mk (st := s_law) l37 e37 k37
  have d_law:Dfn K mg "law" s_law ["_law_script"]:=⟨⟨_,_,F37,PySem.W.mg_of X G a37,F37.binds fun _ _ _ _ _ _ us hl=>by obtain ⟨_,rfl⟩:=lenE1 us hl; rfl⟩⟩
  have v_lowered:FnV K mg "lowered":=⟨_,PySem.W.mg_of X G a19,a19⟩
  have v_raised:FnV K mg "raised":=⟨_,PySem.W.mg_of X G a18,a18⟩
  have e := hfa.symm.trans (PySem.W.mg_of X G a37)
  cases e
  refine ⟨PySem.W.fnOf "law" "law" (defArgs s_law) (defBody s_law) (defScope s_law) .none kV37 dc37 pm37 an37 cd37 ct37,fun s v=>.of_eq rfl,fun base _ _=>law_fn F37 (PySem.W.mg_of X G a37) fun ns=>?_⟩
  have c_is_whole:=ok_is_whole (P:=l.prog) (w:=w) (base:=base) (ns:=ns) d_is_whole er n_isinstance n_bool n_int
  have c_greatest_divisor:=ok_greatest_divisor (P:=l.prog) (w:=w) (base:=base) (ns:=ns) d_greatest_divisor er n_abs
  have c_under:=ok_under (P:=l.prog) (w:=w) (base:=base) (ns:=ns) d_under er
  have c_turned:=ok_turned (P:=l.prog) (w:=w) (base:=base) (ns:=ns) d_turned er
  have c_players:=ok_players (P:=l.prog) (w:=w) (base:=base) (ns:=ns) d_players er n_sorted n_set
  have c_odds:=ok_odds (P:=l.prog) (w:=w) (base:=base) (ns:=ns) d_odds er
  have c_l_cell_at:=ok_l_cell_at (P:=l.prog) (w:=w) (base:=base) (ns:=ns) d_l_cell_at er n_len
  have c_l_stream:=ok_l_stream (P:=l.prog) (w:=w) (base:=base) (ns:=ns) d_l_stream er n_range
  have c_l_no_other:=ok_l_no_other (P:=l.prog) (w:=w) (base:=base) (ns:=ns) d_l_no_other er n_isinstance n_ValueError
  have c_l_of:=ok_l_of (P:=l.prog) (w:=w) (base:=base) (ns:=ns) d_l_of er n_len
  have c_fraction:=ok_fraction d_fraction er c_greatest_divisor c_is_whole
  have c_told_by := ok_told_by d_told_by er c_turned
  have c_check_player:=ok_check_player d_check_player er c_players
  have c_stretch := ok_stretch d_stretch er c_under
  have c_own_sum := ok_own_sum d_own_sum er c_odds
  have c_named_numbers:=ok_named_numbers d_named_numbers er n_dict n_zip c_players
  have c_first_numbers:=ok_first_numbers d_first_numbers er c_players
  have c_l_games:=ok_l_games d_l_games er n_range n_min n_len c_l_stream
  have c_l_right:=ok_l_right d_l_right er n_len n_isinstance n_list c_l_no_other
  have c_takers:=ok_takers d_takers er n_sorted n_set c_told_by
  have c_first_number:=ok_first_number d_first_number er c_own_sum c_named_numbers c_told_by
  have c_tops_but:=ok_tops_but d_tops_but er c_own_sum c_told_by c_named_numbers
  have c_ways_from := ok_ways_from d_ways_from er c_takers
  have c_raised:=ok_raised d_raised er v_MOST c_first_number
  have c_lowered:=ok_lowered d_lowered er v_MOST c_first_number
  have c_copied:=ok_copied (P:=l.prog) (w:=w) (base:=base) (ns:=ns) d_copied er n_isinstance n_tuple n_list
  have c_above:=ok_above d_above er n_sorted c_ways_from c_check_player
  have c_after_rounds:=ok_after_rounds d_after_rounds er n_range n_enumerate n_list v_raised v_lowered c_players c_raised c_lowered
  have c_NoFit___init__:=ok_NoFit___init__ d_NoFit___init__ er c_copied
  have c_joined:=ok_joined d_joined er n_any c_players c_above
  have c_verdict:=ok_verdict d_verdict er n_len n_all c_joined c_players c_told_by c_above
  have c_check_fit:=ok_check_fit d_check_fit er c_check_player c_NoFit___init__ c_verdict
  have c_uppers:=ok_uppers d_uppers er n_all v_raised c_tops_but c_after_rounds c_first_numbers c_check_fit
  have c_lowers:=ok_lowers d_lowers er n_all v_lowered v_MOST c_tops_but c_after_rounds c_first_numbers c_check_fit
  have c_ends:=ok_ends d_ends er n_zip c_stretch c_fraction c_uppers c_lowers
  have c_l_asked:=ok_l_asked d_l_asked er c_ends c_lowers c_uppers
  have c_l_told := ok_l_told d_l_told er c_l_asked
  exact ok_law d_law er n_range n_len c_l_right c_verdict c_l_told c_l_of c_l_stream c_l_cell_at c_l_games
theorem walk {l:PySem.W.OpenLaw} {q:Program} {loose:List Str} {XP:(Str→Option Value)→Heap→Prop} {YP:World→Heap→Prop} {d:DefRec} {K:Params→PySem.W.Frag} (hn:l.most = some 63) (hdf:d.params.defaults = [])
    (hY:∀ (w:World) (h:Heap),YP w h→(K w.params).In h)
    (F:∀ (w:World) (mg:Str→Option Value) (fa:Addr) (h:Heap),(K w.params).In h→h.Ns mainGlobals mg→mg d.name = some (.ref fa) →
      ∃ fd:FuncData,(∀ (s:Shared) (u:Value),BindsTo s fd ⟨[u],[]⟩ [("_law_script",u)])∧∀ base:Heap,(K w.params).In base→base.Ns mainGlobals mg→FnOk l.prog w (K w.params) mg base (CXE l.prog w) 13 fa fd ["_law_script"] (sp_lawA (K w.params))) :
    PySem.W.WalkO q loose XP YP l.row.toRowW d [] (fun f vs=>PySem.call f vs) :=
  L2.walk_of (n:=63) (k:=13) (x:="_law_script") (CX:=fun w=>CXE l.prog w) (sp:=fun w=>sp_lawA (K w.params)) hn (by decide) hdf ⟨rfl,by decide,by decide⟩ hY F (fun _ _ a ns hl _ hS=>⟨ns,a,rfl,hS,hl,fun _=>rfl⟩) fun _ _ _ _ _ z=>cxe0 z
end My
def PySem.W.Fast.tw2060924931622426871 := 0
def PySem.W.Fast.tw11284224689921888898 := 0
def PySem.W.Fast.tw2331858567884190204 := 0
def PySem.W.Fast.tw619797577436133643 := 0
def PySem.W.Fast.tw13115748002928452188 := 0
def PySem.W.Fast.tw7700315881764709671 := 0
def PySem.W.Fast.tw15422725242642703923 := 0
def PySem.W.Fast.tw1599801896453066976 := 0
def PySem.W.Fast.tw4333120356595183686 := 0
def PySem.W.Fast.tw9046330691598911051 := 0
def PySem.W.Fast.tw2042167196817166867 := 0
def PySem.W.Fast.tw738715241552971742 := 0
def PySem.W.Fast.tw2612381072638130340 := 0
def PySem.W.Fast.tw6430790115862512900 := 0
def PySem.W.Fast.tw8113721424303496023 := 0
def PySem.W.Fast.tw16831272579184193484 := 0
def PySem.W.Fast.tw16157973038735772028 := 0
def PySem.W.Fast.tw782135106382192370 := 0
def PySem.W.Fast.tw3375176522690976778 := 0
def PySem.W.Fast.tw4025611920817588387 := 0
def PySem.W.Fast.tw12715183312442949310 := 0
def PySem.W.Fast.tw3427751700201989873 := 0
def PySem.W.Fast.tw11458512514621045050 := 0
def PySem.W.Fast.tw1192338952918738954 := 0
def PySem.W.Fast.tw16749858009964344480 := 0
def PySem.W.Fast.tw5558986535306914598 := 0
def PySem.W.Fast.tw4704652921618400465 := 0
def PySem.W.Fast.tw9444963016700500350 := 0
def PySem.W.Fast.tw14124550010593531644 := 0
def PySem.W.Fast.tw3564613208695062304 := 0
def PySem.W.Fast.tw16656888078341578308 := 0
def PySem.W.Fast.tw7395904693226894251 := 0
def PySem.W.Fast.tw3702494339453735103 := 0
def PySem.W.Fast.tw10638690910531195911 := 0
def PySem.W.Fast.tw6414341081240056404 := 0
def PySem.W.Fast.tw8225825122732044052 := 0
def PySem.W.Fast.tw2590164367254117675 := 0
def PySem.W.Fast.tw5919726271410225526 := 0
def PySem.W.Fast.tw12614633778074112837 := 0
def PySem.W.Fast.tw1927839930380223421 := 0
def PySem.W.Fast.tw8852442578313525809 := 0
def PySem.W.Fast.tw12633695718449531876 := 0
def PySem.W.Fast.tw11584665745137851088 := 0
def PySem.W.Fast.tw16738619828958413377 := 0
def PySem.W.Fast.tw9867531838750217991 := 0
def PySem.W.Fast.tw9180669229320343754 := 0
def PySem.W.Fast.tw11155932654603904031 := 0
def PySem.W.Fast.tw15006796733744188328 := 0
def PySem.W.Fast.tw978499963590362373 := 0
def PySem.W.Fast.tw14202091927108524084 := 0
def PySem.W.Fast.tw3606517429472178112 := 0
def PySem.W.Fast.tw382426762653773611 := 0
def PySem.W.Fast.tw4766563110265595756 := 0
def PySem.W.Fast.tw8396833566448983259 := 0
def PySem.W.Fast.tw15442751192850787352 := 0
def PySem.W.Fast.tw5117863746184378153 := 0
def PySem.W.Fast.tw730500474645476143 := 0
def PySem.W.Fast.tw10604533685287268976 := 0
def PySem.W.Fast.tw14793144549821526403 := 0
def PySem.W.Fast.tw14923158342969946634 := 0
def PySem.W.Fast.tw2073310357351556631 := 0
def PySem.W.Fast.tw18218545198014208043 := 0
def PySem.W.Fast.tw5690149649903698246 := 0
def PySem.W.Fast.tw9657287541812769567 := 0
def PySem.W.Fast.tw5728592249217305655 := 0
def PySem.W.Fast.tw4979826124822418591 := 0
def PySem.W.Fast.tw10426654893969324021 := 0
def PySem.W.Fast.tw16080446390431018552 := 0
def PySem.W.Fast.tw14215108642028401946 := 0
def PySem.W.Fast.tw12121564302679704347 := 0
def PySem.W.Fast.tw15932071351894101681 := 0
def PySem.W.Fast.tw13101827792542988624 := 0
def PySem.W.Fast.tw12057137727584371561 := 0
def PySem.W.Fast.tw2595701365463838902 := 0
def PySem.W.Fast.tw17826195620704120088 := 0
def PySem.W.Fast.tw14171331924818033647 := 0
def PySem.W.Fast.tw13665193259259584520 := 0
def PySem.W.Fast.tw14200892323946449780 := 0
def PySem.W.Fast.tw15143586962139033517 := 0
def PySem.W.Fast.tw6613395674949230507 := 0
def PySem.W.Fast.tw12993330522161704430 := 0
def PySem.W.Fast.tw10107933313154858673 := 0
def PySem.W.Fast.tw9866936113931553206 := 0
def PySem.W.Fast.tw11226682831065337320 := 0
def PySem.W.Fast.tw8977246445440973105 := 0
def PySem.W.Fast.tw9700285315176937773 := 0
def PySem.W.Fast.tw6972337599294769941 := 0
def PySem.W.Fast.tw18363754002789260290 := 0
def PySem.W.Fast.tw16396153184819776715 := 0
def PySem.W.Fast.tw4679052541757492526 := 0
def PySem.W.Fast.tw2538508342521398278 := 0
def PySem.W.Fast.tw2278095847337771947 := 0
def PySem.W.Fast.tw13140626990877558899 := 0
def PySem.W.Fast.tw15795352579934263703 := 0
def PySem.W.Fast.tw12447917281956612288 := 0
def PySem.W.Fast.tw1097526418718436553 := 0
def PySem.W.Fast.tw14128811129578655923 := 0
def PySem.W.Fast.tw17041854607316058737 := 0
def PySem.W.Fast.tw11936613322888684755 := 0
def PySem.W.Fast.tw18362109998461122675 := 0
def PySem.W.Fast.tw6101173422279166737 := 0
def PySem.W.Fast.tw15203131253040172806 := 0
def PySem.W.Fast.tw1381464818616765474 := 0
def PySem.W.Fast.tw14776069402821223031 := 0
def PySem.W.Fast.tw18277632022999972045 := 0
def PySem.W.Fast.tw1321465630454185729 := 0
def PySem.W.Fast.tw4160093980405894662 := 0
def PySem.W.Fast.tw10089785974396971707 := 0
def PySem.W.Fast.tw13313905450300748726 := 0
def PySem.W.Fast.tw9498552685945773798 := 0
def PySem.W.Fast.tw1721598151037772818 := 0
def PySem.W.Fast.tw3013712809513223509 := 0
def PySem.W.Fast.tw17358861019715137247 := 0
def PySem.W.Fast.tw1329562291362705035 := 0
open PySem PySem.W PyProof.Rows
set_option maxRecDepth 100000 in
set_option maxHeartbeats 0 in
theorem PySem.Challenge.cw_ladderworth_k35_no_ends_holds : PySem.Challenge.rw_ladderworth_k35_no_ends.Holds := by
  w_on; o_law; k_head; (case hw => w_witness2)
  k_fill
  refine My.walk (l:=PySem.Challenge.rw_ladderworth_k35_no_ends) rfl rfl (fun w h Y=>PySem.W.kIn_of Y) ?F
  case F =>
    intro w mg fa h KX G hmg
    refine' My.all_mk KX G hmg ?d0 ?d1 ?d2 ?d3 ?d4 ?d5 ?d6 ?d7 ?d8 ?d9 ?d10 ?d11 ?d12 ?d13 ?d14 ?d15 ?d16 ?d17 ?a18 ?l18 ?t18 ?e18 ?k18 ?a19 ?l19 ?t19 ?e19 ?k19 ?d20 ?d21 ?a22 ?l22 ?t22 ?e22 ?k22 ?a23 ?l23 ?t23 ?e23 ?k23 ?d24 ?d25 ?d26 ?d27 ?a28 ?l28 ?t28 ?e28 ?k28 ?d29 ?d30 ?d31 ?d32 ?d33 ?d34 ?d35 ?d36 ?a37 ?l37 ?e37 ?k37 ?er ?n_ValueError ?n_abs ?n_all ?n_any ?n_bool ?n_dict ?n_enumerate ?n_int ?n_isinstance ?n_len ?n_list ?n_min ?n_range ?n_set ?n_sorted ?n_tuple ?n_zip ?v_MOST
    (case er =>
      refine' ⟨PySem.W.mg_of KX G ?_,PySem.W.mg_of KX G ?_,PySem.W.mg_of KX G ?_,PySem.W.mg_of KX G ?_,PySem.W.mg_of KX G ?_,PySem.W.mg_of KX G ?_,PySem.W.mg_of KX G ?_,PySem.W.mg_of KX G ?_,PySem.W.mg_of KX G ?_,PySem.W.mg_of KX G ?_,PySem.W.mg_of KX G ?_,?_,?_,⟨?_,?_,?_,?_,?_,?_⟩,⟨?_,?_,?_,?_,?_,?_⟩,⟨?_,?_,?_,?_,?_,?_⟩,?_,?_,?_,?_,?_,?_,?_,?_,?_,?_,?_,?_,?_,?_,?_,?_,?_,?_,?_,?_,?_,?_,?_,?_,?_,?_,?_,?_,?_,?_,⟨?_,?_⟩,⟨?_,?_,?_⟩,?_,⟨?_,?_⟩,?_⟩
      all_goals (try unfold L2.NoAttr); try (first | k_is | k_exc | kernel_rfl))
    (case d1 | d2 | d6 | d7 | d13 | d14 | d32=>refine' My.dmk KX G ?uA ?uL ?uE ?uK (fun _ _ _ _ _ _ us hl=>by obtain ⟨_,rfl⟩:=My.lenE1 us hl; rfl); (case uA | uL | uE | uK=>k_is))
    (case d3 | d4 | d5 | d8 | d9 | d10 | d11 | d12 | d15 | d21 | d24 | d29 | d31 | d36=>refine' My.dmk KX G ?uA ?uL ?uE ?uK (fun _ _ _ _ _ _ us hl=>by obtain ⟨_,_,rfl⟩:=My.lenE2 us hl; rfl); (case uA | uL | uE | uK=>k_is))
    (case d30=>refine' My.dmk KX G ?uA ?uL ?uE ?uK (fun _ _ _ _ _ _ us hl=>by obtain ⟨_,_,_,rfl⟩:=My.lenE3 us hl; rfl); (case uA | uL | uE | uK=>k_is))
    (case d16 | d17 | d25 | d27 | d35=>refine' My.dmk KX G ?uA ?uL ?uE ?uK (fun _ _ _ _ _ _ us hl=>by obtain ⟨_,_,_,_,rfl⟩:=My.lenE4 us hl; rfl); (case uA | uL | uE | uK=>k_is))
    (case d33=>refine' My.dmk KX G ?uA ?uL ?uE ?uK (fun _ _ _ _ _ _ us hl=>by obtain ⟨_,_,_,_,_,rfl⟩:=My.lenE5 us hl; rfl); (case uA | uL | uE | uK=>k_is))
    (case d20 | d26 | d34=>refine' My.dmk KX G ?uA ?uL ?uE ?uK (fun _ _ _ _ _ _ us hl=>by obtain ⟨_,_,_,_,_,_,rfl⟩:=My.lenE6 us hl; rfl); (case uA | uL | uE | uK=>k_is))
    (case d0=>refine' My.mmk (Lw.ac_cons ⟨?uA0,?uI0,?uJ0⟩ Lw.ac_nil) Lw.ac_nil ?uL ?uE ?uK (fun _ _ _ _ _ _ us hl=>by obtain ⟨_,_,rfl⟩:=My.lenE2 us hl; rfl); (case uA0 | uI0 | uJ0 | uL | uE | uK=>first | k_is | kernel_rfl))
    (case a18 | l18 | t18 | e18 | k18 => k_is)
    (case a19 | l19 | t19 | e19 | k19 => k_is)
    (case a22 | l22 | t22 | e22 | k22 => k_is)
    (case a23 | l23 | t23 | e23 | k23 => k_is)
    (case a28 | l28 | t28 | e28 | k28 => k_is)
    (case a37 | l37 | e37 | k37 => k_is)
    (case n_ValueError | n_abs | n_all | n_any | n_bool | n_dict | n_enumerate | n_int | n_isinstance | n_len | n_list | n_min | n_range | n_set | n_sorted | n_tuple | n_zip=>refine' PySem.W.mg_none_of KX G ?_; k_is)
    (case v_MOST=>refine' ⟨_,PySem.W.mg_of KX G ?uP,?uQ⟩; (case uP=>k_is); (case uQ=>exact ⟨_,rfl⟩))
#print axioms PySem.Challenge.cw_ladderworth_k35_no_ends_holds
