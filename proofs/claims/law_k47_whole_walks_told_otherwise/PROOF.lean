import PyProof.Rows.All
import Wide.All
import OpenK.AllK
import Wide.FinOn
import Lean
import PyProof.EqAt
import PyProof.EqKinds
import PyProof.TupleCall
import PyProof.Cells
import PyProof.AutoSeq1
import PyProof.MaxThree
import KE.KSortTup
import KE.KDflt
import PyProof.ListOps
import PyProof.AttrMissHeap
import PyProof.FactsAll.zip
import KE.KItemsList
import PyProof.DictUpdate
import PySem.Challenge.RW_ladderworth_k47_whole_walks_told_otherwi
set_option Elab.async false
set_option linter.all false
set_option maxRecDepth 100000
namespace L2
open PySem PySem.Spec PyProof.Rows
abbrev Key := Sum Int Str
def keyIs : Key → Value → Bool
  | .inl k, v => Value.isInt k v
  | .inr x, v => Value.isStrOf x v
def keyH (w : World) : Key → Int
  | .inl k => hashInt k
  | .inr x => hashStr w x
theorem keyIs_shape:∀ {k:Key} {v:Value},keyIs k v = true→(∃ i t,k = Sum.inl i∧v = Value.int i t) ∨ (∃ x t,k = Sum.inr x∧v = Value.str x t)
  | .inl i, v, h => by
    obtain ⟨t, e⟩ := Value.isInt_shape (k := i) (v := v) h
    exact .inl ⟨i, t, rfl, e⟩
  | .inr x, v, h => by
    obtain ⟨t, e⟩ := Value.isStrOf_shape (x := x) (v := v) h
    exact .inr ⟨x, t, rfl, e⟩
theorem keyIs_int (i:Int) (t:Tok):keyIs (.inl i) (.int i t) = true:=by simp [keyIs,Value.isInt]
theorem keyIs_str (x:Str) (t:Tok):keyIs (.inr x) (.str x t) = true:=by simp [keyIs,Value.isStrOf]
theorem key_ll (a b:Int):decide ((Sum.inl a:Key) = Sum.inl b) = (a == b):=by
  by_cases e : a = b
  · subst e; simp
  · have h:¬ (Sum.inl a:Key) = Sum.inl b:=fun q=>e (Sum.inl.inj q)
    rw [decide_eq_false h]
    exact (beq_eq_false_iff_ne.mpr e).symm
theorem key_rr (a b:Str):decide ((Sum.inr a:Key) = Sum.inr b) = decide (a = b):=by
  by_cases e : a = b
  · subst e; simp
  · have h:¬ (Sum.inr a:Key) = Sum.inr b:=fun q=>e (Sum.inr.inj q)
    rw [decide_eq_false h, decide_eq_false e]
theorem key_lr (a:Int) (b:Str):decide ((Sum.inl a:Key) = Sum.inr b) = false:=decide_eq_false (fun q=>nomatch q)
theorem key_rl (a:Str) (b:Int):decide ((Sum.inr a:Key) = Sum.inl b) = false:=decide_eq_false (fun q=>nomatch q)
def mixKind (prog:Program) (w:World):PySem.KeyKind prog w Key where
  is := keyIs
  hash := keyH w
  inj := fun v a b ha hb => by
    rcases keyIs_shape ha with ⟨i,t,rfl,rfl⟩ | ⟨x,t,rfl,rfl⟩
    · rcases keyIs_shape hb with ⟨j,u,rfl,e⟩ | ⟨y,u,rfl,e⟩
      · injection e with e1 _; rw [e1]
      · exact nomatch e
    · rcases keyIs_shape hb with ⟨j,u,rfl,e⟩ | ⟨y,u,rfl,e⟩
      · exact nomatch e
      · injection e with e1 _; rw [e1]
  byValue := fun k v h => by
    rcases keyIs_shape h with ⟨i,t,rfl,rfl⟩ | ⟨x,t,rfl,rfl⟩ <;> rfl
  pyHash := fun hv h => by
    rcases keyIs_shape hv with ⟨i,t,rfl,rfl⟩ | ⟨x,t,rfl,rfl⟩
    · exact wpAny_pyHash_int h
    · exact wpAny_pyHash_str h
  eqBool := fun hu hv h => by
    rcases keyIs_shape hu with ⟨i,t,rfl,rfl⟩ | ⟨x,t,rfl,rfl⟩
    · rcases keyIs_shape hv with ⟨j,u,rfl,rfl⟩ | ⟨y,u,rfl,rfl⟩
      · rw [key_ll] at h; exact wpAny_eqBool_int h
      · rw [key_lr] at h; exact SeqAt.EqAt.int_str i t y u _ _ _ _ h
    · rcases keyIs_shape hv with ⟨j,u,rfl,rfl⟩ | ⟨y,u,rfl,rfl⟩
      · rw [key_rl] at h; exact SeqAt.EqAt.str_int x t j u _ _ _ _ h
      · rw [key_rr] at h; exact wpAny_eqBool_str h
  «strs» := fun k x t v h => by
    rcases keyIs_shape h with ⟨i,u,rfl,e⟩ | ⟨y,u,rfl,e⟩
    · exact nomatch e
    · injection e with e1 _
      subst e1
      cases v <;> rfl
theorem mixKind_int (prog:Program) (w:World) (i:Int) (t:Tok):(mixKind prog w).is (.inl i) (.int i t) = true:=keyIs_int i t
theorem mixKind_str (prog:Program) (w:World) (x:Str) (t:Tok):(mixKind prog w).is (.inr x) (.str x t) = true:=keyIs_str x t
end L2
namespace L2
open PySem PySem.Spec PyProof.Rows
inductive V where
  | non | bl (b:Bool) | int (i:Int) | str (x:Str) | byt (b:Array UInt8) | flt (b:UInt64) | ref (a:Addr) | ty (n:String)
  deriving DecidableEq
def RelV : V → Value → Prop
  | .non, u => u = Value.none
  | .bl b, u => u = Value.bool b
  | .int i, u => ∃ t, u = Value.int i t
  | .str x, u => ∃ t, u = Value.str x t
  | .byt b, u => ∃ t, u = Value.bytes b t
  | .flt b, u => ∃ t, u = Value.float b t
  | .ref a, u => u = Value.ref a
  | .ty n, u => u = Value.type n
abbrev Vals : List V → List Value → Prop := Paired RelV
theorem Vals.length {xs:List V} {us:List Value} (r:Vals xs us):xs.length = us.length:=Paired.length r
theorem Vals.get:∀ {xs:List V} {us:List Value} {i:Nat} {x:V},Vals xs us→xs[i]? = some x→∃ u,us[i]? = some u∧RelV x u
  | _, _, _, _, .nil, e => by simp at e
  | _,_,0,_,.cons r _,e=>by simp at e; subst e; exact ⟨_,rfl,r⟩
  | _, _, i + 1, x, .cons _ t, e => by
    obtain ⟨u,h1,h2⟩:=Vals.get (i:=i) (x:=x) t (by simpa using e)
    exact ⟨u, by simpa using h1, h2⟩
theorem Vals.append:∀ {xs ys:List V} {us ws:List Value},Vals xs us→Vals ys ws→Vals (xs ++ ys) (us ++ ws)
  | _, _, _, _, .nil, s => s
  | _, _, _, _, .cons r t, s => .cons r (Vals.append t s)
theorem Vals.take:∀ {xs:List V} {us:List Value} (n:Nat),Vals xs us→Vals (xs.take n) (us.take n)
  | _, _, 0, _ => .nil
  | _, _, _ + 1, .nil => .nil
  | _, _, n + 1, .cons r t => .cons r (Vals.take n t)
theorem Vals.drop:∀ {xs:List V} {us:List Value} (n:Nat),Vals xs us→Vals (xs.drop n) (us.drop n)
  | _, _, 0, r => r
  | _, _, _ + 1, .nil => .nil
  | _, _, n + 1, .cons _ t => Vals.drop n t
def RelO : Option V → Option Value → Prop
  | some v, some u => RelV v u
  | none, none => True
  | _, _ => False
def KV {κ:Type}:List (κ × V)→List (κ × Value)→Prop:=Paired fun (p:κ × V) (q:κ × Value)=>p.1 = q.1∧RelV p.2 q.2
def kV : Key → V
  | .inl i => .int i
  | .inr x => .str x
inductive HO where
  | lst (xs : List V)
  | tup (xs : List V)
  | dK (kvs:List (Key × V)) | dT (kvs:List (List Key × V))
  | set (S : Int → Bool) (n : Nat)
  | ins (C dx : Addr) (fs : List (Str × V))
  | own (x : Addr)
  | xd (fs : List (Str × V))
  | met (f x : Addr)
  | rng (lo hi : Int)
  | frz (o : Obj) (u : HO)
  | tbl (ps : Array Value)
  | ext (φ : Heap → Prop)
abbrev Hp := Addr → Option HO
def upd (H:Hp) (a:Addr) (o:HO):Hp:=fun b=>if b = a then some o else H b
theorem upd_same {H:Hp} {a:Addr} {o:HO}:upd H a o a = some o:=by unfold upd; rw [if_pos rfl]
theorem upd_ne {H:Hp} {a b:Addr} {o:HO} (h:b ≠ a):upd H a o b = H b:=by unfold upd; rw [if_neg h]
theorem upd_upd {H:Hp} {a:Addr} {o u:HO}:upd (upd H a o) a u = upd H a u:=by
  funext b; unfold upd; split <;> rfl
theorem ne_of {H:Hp} {a b:Addr} {o u:HO} (h:H a = some o) (h':H b = some u) (d:o ≠ u):a ≠ b:=by
  intro e; subst e; rw [h] at h'; exact d (Option.some.inj h')
theorem ne_of_none {H:Hp} {a b:Addr} {o:HO} (h:H a = some o) (h':H b = none):a ≠ b:=by
  intro e; subst e; rw [h] at h'; cases h'
section
variable (P : Program) (w : World)
def ObjOk (H : Hp) (h : Heap) (a : Addr) : HO → Prop
  | .lst xs=>xs.length ≤ sizeLine∧∃ (its:List Value) (n:Nat),Vals xs its∧h.get? a = some { cls:=.type "list",data:=.seq its.toArray n }
  | .tup xs=>xs.length ≤ sizeLine∧∃ its:List Value,Vals xs its∧IsTup h a its.toArray
  | .dK kvs=>kvs.length ≤ sizeLine∧(a == sysModules) = false∧∃ vs,KV kvs vs∧h.DictOf (mixKind P w) a vs
  | .dT kvs=>kvs.length ≤ sizeLine∧(a == sysModules) = false∧∃ xs:List (List Key × Addr × Value),
      Paired (fun (p:List Key × V) (q:List Key × Addr × Value)=>p.1 = q.1∧H q.2.1 = some (.tup (p.1.map kV))∧RelV p.2 q.2.2) kvs xs ∧
      ∃ o es ep,h.get? a = some o∧o.ExactDict∧o.data = .dict es ep∧es.toList = xs.map (entryOfKey (tupleKind (mixKind P w)))∧(xs.map (·.1)).Nodup
  | .set S n => h.SetOf (intKind P w) a S n
  | .ins C dx fs=>H dx = some (.own a)∧fs.length ≤ 1000∧dx ≠ a∧h.get? a = some (PySem.W.instObj C dx) ∧
      ∃ mA,h.Ns1 dx mA∧(∀ f,RelO (fs.lookup f) (mA f))∧PySem.Within mA (fs.map (·.1))
  | .own _ => ∃ o, h.get? a = some o
  | .xd fs=>∃ mA,h.Ns1 a mA∧∀ f,RelO (fs.lookup f) (mA f)
  | .rng lo hi=>∃ t u v,h.get? a = some { cls:=.type "range",data:=.fields #[.int lo t,.int hi u,.int 1 v] }
  | .frz o u => h.get? a = some o ∧ ObjOk H h a u
  | .tbl ps=>h.get? a = some { cls:=.none,data:=.fields ps }
  | .met f x=>h.get? a = some (PySem.W.methodObj (.ref f) (.ref x))
  | .ext φ=>φ h∧(∃ o,h.get? a = some o)∧∀ h1 h2:Heap,φ h1→(∀ o,h1.get? a = some o→h2.get? a = some o)→φ h2
def HOk (H:Hp) (h:Heap):Prop:=∀ a o,H a = some o→ObjOk P w H h a o
end
section
variable {P:Program} {w:World} {H H':Hp} {h h':Heap} {a:Addr} {o:HO}
theorem ObjOk.lt (x:ObjOk P w H h a o):a < h.objs.size:=by
  cases o with
  | lst xs=>obtain ⟨_,_,_,_,e⟩:=x; exact Heap.lt_size e
  | tup xs => obtain ⟨_, _, _, p⟩ := x; exact p.lt
  | dK kvs=>obtain ⟨_,_,_,_,o,_,_,e,_⟩:=x; exact Heap.lt_size e
  | dT kvs=>obtain ⟨_,_,_,_,o,_,_,e,_⟩:=x; exact Heap.lt_size e
  | set S n=>obtain ⟨o,_,_,_,e,_⟩:=x; exact Heap.lt_size e
  | ins C dx fs=>obtain ⟨_,_,_,e,_⟩:=x; exact Heap.lt_size e
  | own y => obtain ⟨_, e⟩ := x; exact Heap.lt_size e
  | xd fs=>obtain ⟨_,⟨_,_,_,e,_⟩,_⟩:=x; exact Heap.lt_size e
  | rng lo hi=>obtain ⟨_,_,_,e⟩:=x; exact Heap.lt_size e
  | frz ob u => obtain ⟨e, _⟩ := x; exact Heap.lt_size e
  | tbl ps=>exact Heap.lt_size (show h.get? a = some _ from x)
  | met f y=>exact Heap.lt_size (show h.get? a = some _ from x)
  | ext φ=>obtain ⟨_,⟨_,e⟩,_⟩:=x; exact Heap.lt_size e
theorem Paired.mapP {α β:Type} {F G:α→β→Prop}:∀ {l₁:List α} {l₂:List β},Paired F l₁ l₂→(∀ a b,F a b→G a b)→Paired G l₁ l₂
  | _, _, .nil, _ => .nil
  | _, _, .cons r t, f => .cons (f _ _ r) (Paired.mapP t f)
theorem ObjOk.stay (x:ObjOk P w H h a o) (k:∀ b u,(b = a ∨ H b = some (.own a))→h.get? b = some u→h'.get? b = some u)
    (ho:∀ b,H b = some (.own a)→H' b = some (.own a)) (ht:∀ b xs,H b = some (.tup xs)→H' b = some (.tup xs)):ObjOk P w H' h' a o:=by
  induction o with
  | lst xs=>obtain ⟨z,its,n,r,e⟩:=x; exact ⟨z,its,n,r,k _ _ (.inl rfl) e⟩
  | tup xs=>obtain ⟨z,its,r,ob,e,c⟩:=x; exact ⟨z,its,r,ob,k _ _ (.inl rfl) e,c⟩
  | dK kvs=>obtain ⟨z,y,vs,r,ob,es,ep,e,c⟩:=x; exact ⟨z,y,vs,r,ob,es,ep,k _ _ (.inl rfl) e,c⟩
  | dT kvs =>
    obtain ⟨z, y, xs, r, ob, es, ep, e, c⟩ := x
    exact ⟨z,y,xs,Paired.mapP r fun p q z=>⟨z.1,ht _ _ z.2.1,z.2.2⟩,ob,es,ep,k _ _ (.inl rfl) e,c⟩
  | set S n=>obtain ⟨ob,es,ep,t,e,c⟩:=x; exact ⟨ob,es,ep,t,k _ _ (.inl rfl) e,c⟩
  | ins C dx fs =>
    obtain ⟨d, z, ne, e, mA, ⟨od, es, ep, e2, c⟩, r⟩ := x
    exact ⟨ho _ d,z,ne,k _ _ (.inl rfl) e,mA,⟨od,es,ep,k _ _ (.inr d) e2,c⟩,r⟩
  | own y=>obtain ⟨ob,e⟩:=x; exact ⟨ob,k _ _ (.inl rfl) e⟩
  | xd fs=>obtain ⟨mA,⟨od,es,ep,e,c⟩,r⟩:=x; exact ⟨mA,⟨od,es,ep,k _ _ (.inl rfl) e,c⟩,r⟩
  | rng lo hi=>obtain ⟨t,u,v,e⟩:=x; exact ⟨t,u,v,k _ _ (.inl rfl) e⟩
  | frz ob u ih=>obtain ⟨e,q⟩:=x; exact ⟨k _ _ (.inl rfl) e,ih q⟩
  | tbl ps =>
    have e:h.get? a = some { cls:=.none,data:=.fields ps }:=x
    show h'.get? a = some { cls:=.none,data:=.fields ps }
    exact k a _ (.inl rfl) e
  | met f y =>
    have e:h.get? a = some (PySem.W.methodObj (.ref f) (.ref y)):=x
    show h'.get? a = some (PySem.W.methodObj (.ref f) (.ref y))
    exact k a _ (.inl rfl) e
  | ext φ=>obtain ⟨p,⟨o,e⟩,st⟩:=x; exact ⟨st _ _ p fun o q=>k _ _ (.inl rfl) q,⟨o,k _ _ (.inl rfl) e⟩,st⟩
theorem HOk.lt (x:HOk P w H h) (e:H a = some o):a < h.objs.size:=(x a o e).lt
theorem HOk.fresh (x:HOk P w H h) (e:h.objs.size ≤ a):H a = none:=by
  cases q : H a with
  | none => rfl
  | some u=>exact absurd (Nat.lt_of_lt_of_le (x.lt q) e) (Nat.lt_irrefl _)
theorem HOk.kept (x:HOk P w H h) (k:∀ b u,h.get? b = some u→h'.get? b = some u):HOk P w H h':=fun a o e =>
  (x a o e).stay (fun b u _ q=>k b u q) (fun _ q=>q) fun _ _ q=>q
theorem HOk.laid (x:HOk P w H h) (k:∀ b u,h.get? b = some u→h'.get? b = some u) (hp:h.objs.size ≤ a) (new:ObjOk P w (upd H a o) h' a o):HOk P w (upd H a o) h':=fun b u e=>by
  have hn := x.fresh hp
  by_cases hb : b = a
  · subst hb; rw [upd_same] at e; cases e; exact new
  · rw [upd_ne hb] at e
    exact (x b u e).stay (fun c v _ q=>k c v q) (fun c q=>by rw [upd_ne (ne_of_none q hn)]; exact q) fun c xs q=>by rw [upd_ne (ne_of_none q hn)]; exact q
end
def Rd (H:Hp) (a:Addr) (u:HO):Prop:=H a = some u ∨ ∃ o,H a = some (.frz o u)
theorem Rd.ok {P:Program} {w:World} {H:Hp} {h:Heap} {a:Addr} {u:HO} (r:Rd H a u) (x:HOk P w H h):ObjOk P w H h a u:=by
  rcases r with r | ⟨o, r⟩
  · exact x a u r
  · obtain ⟨_, q⟩ := x a _ r
    exact q
def Mut : Option HO → Prop
  | some (.lst _) => True
  | some (.dK _) => True
  | some (.dT _) => True
  | some (.set _ _) => True
  | some (.ins _ _ _) => True
  | some (.ext _) => True
  | _ => False
section
variable {P:Program} {w:World} {H:Hp} {h h':Heap} {x e:Addr} {o':HO}
theorem HOk.write (ok:HOk P w H h) (mu:Mut (H x)) (he:e = x ∨ H e = some (.own x)) (k:∀ b u,b ≠ e→h.get? b = some u→h'.get? b = some u) (heo:∃ u,h'.get? e = some u)
    (new:ObjOk P w (upd H x o') h' x o'):HOk P w (upd H x o') h':=fun b u q=>by
  have nown:∀ c y,H c = some (.own y)→c ≠ x:=fun c y r z=>by subst z; rw [r] at mu; exact mu
  have ntup:∀ c xs,H c = some (.tup xs)→c ≠ x:=fun c xs r z=>by subst z; rw [r] at mu; exact mu
  by_cases hb : b = x
  · subst hb; rw [upd_same] at q; cases q; exact new
  · rw [upd_ne hb] at q
    by_cases hbe : b = e
    · have q' : H b = some (.own x) := by
        rcases he with z | z
        · exact absurd (hbe.trans z) hb
        · rw [hbe]; exact z
      rw [q] at q'; cases q'
      obtain ⟨v, hv⟩ := heo
      exact ⟨v, by rw [hbe]; exact hv⟩
    · refine (ok b u q).stay (fun c v hc r=>k c v ?_ r) (fun c r=>by rw [upd_ne (nown c b r)]; exact r) fun c xs r=>by rw [upd_ne (ntup c xs r)]; exact r
      rcases hc with rfl | hc
      · exact hbe
      · rintro rfl
        rcases he with z | z
        · exact nown c b hc z
        · rw [hc] at z; cases z; exact hb rfl
end
structure Un (fs ex:List Addr) (H H':Hp) (h h':Heap):Prop where
  keep:∀ b o,h.get? b = some o→H b = none→b ∉ fs→b ∉ ex→h'.get? b = some o
  slot:∀ b o,h.get? b = some o→H b = none→b ∈ fs→b ∉ ex→∃ sl,h'.get? b = some { o with slots:=sl }
  free:∀ b o,h.get? b = some o→H b = none→b ∉ ex→H' b = none
  there:∀ b o,h.get? b = some o→b ∉ ex→∃ o',h'.get? b = some o'
  tups:∀ b xs,H b = some (.tup xs)→H' b = some (.tup xs)
  frzs:∀ b o u,H b = some (.frz o u)→H' b = some (.frz o u)
  tbls:∀ b ps,H b = some (.tbl ps)→∃ more,H' b = some (.tbl (ps ++ more))
section
variable {fs fs' ex ex':List Addr} {H H1 H2:Hp} {h h1 h2 h':Heap} {a x e:Addr} {o:HO}
theorem Un.any (u:Un fs ex H H1 h h1) {b:Addr} {ob:Obj} (q:h.get? b = some ob) (n:H b = none) (hx:b ∉ ex):∃ sl,h1.get? b = some { ob with slots:=sl }:=by
  by_cases hb : b ∈ fs
  · exact u.slot b ob q n hb hx
  · exact ⟨ob.slots, u.keep b ob q n hb hx⟩
theorem Un.kept (k:∀ b u,h.get? b = some u→h'.get? b = some u):Un fs ex H H h h' :=
  ⟨fun b ob q _ _ _=>k b ob q,fun b ob q _ _ _=>⟨ob.slots,k b ob q⟩,fun _ _ _ n _=>n,fun b ob q _=>⟨ob,k b ob q⟩,fun _ _ q=>q,fun _ _ _ q=>q,fun _ ps q=>⟨#[],by rw [q]; simp⟩⟩
theorem Un.refl : Un fs ex H H h h := Un.kept fun _ _ q => q
theorem Un.laid (k:∀ b u,h.get? b = some u→h'.get? b = some u) (hp:h.objs.size ≤ a) (hn:H a = none):Un fs ex H (upd H a o) h h' where
  keep := fun b u q _ _ _ => k b u q
  slot := fun b u q _ _ _ => ⟨u.slots, k b u q⟩
  free:=fun b u q n _=>by rw [upd_ne (Nat.ne_of_lt (Nat.lt_of_lt_of_le (Heap.lt_size q) hp))]; exact n
  there := fun b u q _ => ⟨u, k b u q⟩
  tups:=fun b xs q=>by rw [upd_ne (ne_of_none q hn)]; exact q
  frzs:=fun b u xs q=>by rw [upd_ne (ne_of_none q hn)]; exact q
  tbls:=fun b ps q=>⟨#[],by rw [upd_ne (ne_of_none q hn),q]; simp⟩
theorem Un.write (mu:Mut (H x)) (he:e = x ∨ H e = some (.own x)) (k:∀ b u,b ≠ e→h.get? b = some u→h'.get? b = some u) (heo:∃ u,h'.get? e = some u):Un fs ex H (upd H x o) h h':=by
  have hx:∀ b,H b = none→b ≠ x:=fun b n z=>by subst z; rw [n] at mu; exact mu
  have hb : ∀ b, H b = none → b ≠ e := fun b n z => by
    subst z
    rcases he with r | r
    · exact hx b n r
    · rw [n] at r; cases r
  have hm:∀ b u,H b = some u→¬ Mut (some u)→b ≠ x:=fun b u q nm z=>by subst z; rw [q] at mu; exact nm mu
  refine ⟨fun b u q n _ _=>k b u (hb b n) q,fun b u q n _ _=>⟨u.slots,k b u (hb b n) q⟩,fun b u q n _=>by rw [upd_ne (hx b n)]; exact n,fun b u q _=>?_,
    fun b xs q=>by rw [upd_ne (hm b _ q fun z=>z)]; exact q,fun b u xs q=>by rw [upd_ne (hm b _ q fun z=>z)]; exact q,fun b ps q=>⟨#[],by rw [upd_ne (hm b _ q fun z=>z),q]; simp⟩⟩
  by_cases hbe : b = e
  · subst hbe; exact heo
  · exact ⟨u, k b u hbe q⟩
end
def trk (h:Heap) (H:Hp):List Addr:=(List.range h.objs.size).filter fun a=>(H a).isSome
def hidT (h:Heap) (H:Hp):Heap:=PySem.W.hideAll h (trk h H)
theorem hidT_size (h:Heap) (H:Hp):(hidT h H).objs.size = h.objs.size:=PySem.W.hideAll_size _ _
theorem hidT_get {h:Heap} {H:Hp} {b:Addr} {o:Obj} (e:h.get? b = some o) (n:H b = none):(hidT h H).get? b = some o :=
  PySem.W.hideAll_get _ e fun hm => by
    have q:(H b).isSome = true:=(List.mem_filter.mp hm).2
    rw [n] at q; simp at q
theorem of_hidT {h:Heap} {H:Hp} {b:Addr} {o:Obj} (e:(hidT h H).get? b = some o):h.get? b = some o∧H b = none:=by
  have e':h.get? b = some o:=PySem.W.of_hideAll (trk h H) e
  refine ⟨e', ?_⟩
  cases q : H b with
  | none => rfl
  | some x =>
    have hm:b ∈ trk h H:=List.mem_filter.mpr ⟨List.mem_range.mpr (Heap.lt_size e'),by simp [q]⟩
    have z:(hidT h H).get? b = none:=PySem.W.hideAll_none (trk h H) hm
    rw [z] at e; cases e
def allNews (g h:Heap) (L:Addr):List (Addr × Obj):=(List.range h.objs.size).filterMap fun a=>if a = L ∨ (g.get? a).isSome = true then none else (h.get? a).map fun o=>(a,o)
def rest (g h:Heap) (L d:Addr):List (Addr × Obj):=(allNews g h L).filter fun p=>decide (p.1 ≠ d)
end L2
namespace L2
open PySem PySem.Spec PyProof.Rows
structure Mod (K:PySem.W.Frag) (mg:Str→Option Value) (base:Heap):Prop where
  kin : K.In base
  glob : base.Ns mainGlobals mg
  blt:∃ mb,base.Ns builtinsNs mb∧∀ x:Str,x ≠ "__name__"→mb x = bootBuiltins x
  nolimit : base.NoLimit
/-- the context: a def's body (or a comprehension's block) running. base: fixed through the whole law; s₀,H₀: the entry; outer: the frames whose slots others may change (a def's callers); stack: all frames that run;
   ex: iterators that were made ahead of the entry and are walked here (a comprehension's); fn: the names whose cells were made at the entry (a def: all; a comprehension's block: its own); calm: not within an except suite; pn: pins that every state bears; xe: what is wanted of an exception that leaves the code -/
structure Cx where
  prog : Program
  w : World
  K : PySem.W.Frag
  mg : Str → Option Value
  base : Heap
  A : Around
  N : List Str
  s₀ : Shared
  H₀ : Hp
  env : Env
  outer : List Env
  stack : List Env
  ex : List Addr
  fn : Str → Bool
  calm : Bool
  pn : List (Addr × Obj)
  xe : Value → Shared → Prop
def frs (l : List Env) : List Addr := l.filterMap (·.frame)
abbrev Cx.fs (X : Cx) : List Addr := frs X.outer
def Vis (sc:Scope) (x:Str):Prop:=sc.names.lookup x = some .local ∨ sc.names.lookup x = some .cell ∨ sc.names.lookup x = some .free
def Loc (sc:Scope) (x:Str):Prop:=sc.names.lookup x = some .local ∨ sc.names.lookup x = some .cell
def Look (env:Env) (h:Heap) (m:Str→Option Value) (x:Str) (u:Value):Prop :=
  (env.kindOf x = some .local∧m x = some u) ∨ ((env.kindOf x = some .cell ∨ env.kindOf x = some .free)∧∃ c,env.cells.lookup x = some c∧h.IsCell c (some u))
structure Cx.Ok (X : Cx) : Prop where
  mod : Mod X.K X.mg X.base
  kind : X.env.scope.kind = .function
  glob : X.env.globals = mainGlobals
  blt : X.env.builtins = builtinsNs
  above : X.s₀.heap.objs.size ≤ X.env.locals
  inj:∀ x y c,X.env.cells.lookup x = some c→X.env.cells.lookup y = some c→x = y
  has:∀ x,(X.env.kindOf x = some .cell ∨ X.env.kindOf x = some .free)→∃ c,X.env.cells.lookup x = some c
  cab:∀ x c,X.fn x = true→X.env.cells.lookup x = some c→X.s₀.heap.objs.size ≤ c
  hd : X.calm = true → X.A.handled = none
  frames : X.A.frames = some X.stack
  stk:X.stack = X.outer ∨ (X.stack = X.env :: X.outer∧X.env.frame = some X.env.locals)
  exf:∀ b ∈ X.ex,b ≠ X.env.locals∧∀ x c,X.env.cells.lookup x = some c→c ≠ b
  bs:∀ b o,X.base.get? b = some o→X.s₀.heap.get? b = some o∧X.H₀ b = none
  bsz : X.base.objs.size ≤ X.s₀.heap.objs.size
  noex : ∀ b o, X.base.get? b = some o → b ∉ X.ex
  exfs : ∀ b ∈ X.ex, b ∉ X.fs
  funs : X.s₀.heap.FunFrames X.base X.outer
  frf : ∀ b ∈ X.fs, X.H₀ b = none
structure Inv (X:Cx) (pins:List (Addr × Obj)) (σ:List (Option V)) (H:Hp) (s:Shared):Prop where
  ok : X.Ok
  os : s.os = X.s₀.os
  bare : AllBare s.gens
  base : Un X.fs X.ex X.H₀ H X.s₀.heap s.heap
  loc:∃ m,s.heap.Ns X.env.locals m∧∀ (i:Nat) (x:Str) (v:V),X.N[i]? = some x→σ[i]? = some (some v)→Vis X.env.scope x→∃ u,RelV v u∧Look X.env s.heap m x u
  cell:∀ x c,X.env.cells.lookup x = some c→∃ v,s.heap.IsCell c v
  free : H X.env.locals = none
  freeC : ∀ x c, X.env.cells.lookup x = some c → H c = none
  pin:∀ p ∈ X.pn ++ pins,s.heap.get? p.1 = some p.2∧H p.1 = none∧p.1 ≠ X.env.locals∧p.1 ∉ X.fs∧∀ v,p.2.data ≠ .cell v
  hok : HOk X.prog X.w H s.heap
  len : σ.length = X.N.length
section
variable {X:Cx} {pins:List (Addr × Obj)} {σ:List (Option V)} {H H':Hp} {s:Shared} {h':Heap}
theorem Cx.Ok.nofr (ok:X.Ok) {b:Addr} {o:Obj} (e:X.base.get? b = some o):b ∉ X.fs:=fun hb=>by
  have := (ok.funs.mem hb).1
  rw [e] at this; cases this
theorem Inv.bs (I:Inv X pins σ H s):∀ b o,X.base.get? b = some o→s.heap.get? b = some o∧H b = none:=fun b o e =>
  ⟨I.base.keep b o (I.ok.bs b o e).1 (I.ok.bs b o e).2 (I.ok.nofr e) (I.ok.noex b o e),I.base.free b o (I.ok.bs b o e).1 (I.ok.bs b o e).2 (I.ok.noex b o e)⟩
theorem Inv.bk (I:Inv X pins σ H s):∀ b o,X.base.get? b = some o→s.heap.get? b = some o:=fun b o e=>(I.bs b o e).1
theorem Inv.mod (I:Inv X pins σ H s):Mod X.K X.mg X.base:=I.ok.mod
theorem Inv.kIn (I:Inv X pins σ H s):X.K.In s.heap:=I.ok.mod.kin.keeps I.bk
theorem Inv.nolimit (I:Inv X pins σ H s):s.heap.NoLimit:=I.ok.mod.nolimit.keeps I.bk
theorem Inv.lt (I:Inv X pins σ H s):X.env.locals < s.heap.objs.size:=let ⟨_,hn,_⟩:=I.loc; hn.lt
theorem Inv.sz (I:Inv X pins σ H s):X.s₀.heap.objs.size ≤ s.heap.objs.size:=Nat.le_trans I.ok.above (Nat.le_of_lt I.lt)
theorem Inv.nofs (I:Inv X pins σ H s) {a:Addr} (h:s.heap.objs.size ≤ a):a ∉ X.fs:=fun hb=>by
  obtain ⟨_, o, ho, _⟩ := I.ok.funs.mem hb
  exact absurd (Nat.lt_of_lt_of_le (Heap.lt_size ho) (Nat.le_trans I.sz h)) (Nat.lt_irrefl _)
theorem Inv.cne (I:Inv X pins σ H s):∀ x c,X.env.cells.lookup x = some c→c ≠ X.env.locals:=fun x c e z=>by
  obtain ⟨v, o, ho, hd⟩ := I.cell x c e
  obtain ⟨m, ⟨o', es, ep, ho', hd', _⟩, _⟩ := I.loc
  rw [z, ho'] at ho; cases ho; rw [hd'] at hd; cases hd
theorem Inv.funs (I:Inv X pins σ H s):s.heap.FunFrames X.base X.outer:=by
  have all:∀ (l:List Env),(∀ b ∈ frs l,b ∈ X.fs)→X.s₀.heap.FunFrames X.base l→s.heap.FunFrames X.base l:=by
    intro l
    induction l with
    | nil => intro _ _; trivial
    | cons env r ih =>
      intro hs hl
      obtain ⟨hk, ⟨L, o, hf, hn, ho, hd⟩, hr⟩ := hl
      have hL:L ∈ X.fs:=hs L (by unfold frs; rw [List.filterMap_cons,hf]; exact List.mem_cons_self)
      obtain ⟨sl,e⟩:=I.base.slot L o ho (I.ok.frf L hL) hL fun z=>I.ok.exfs L z hL
      exact ⟨hk,⟨L,_,hf,hn,e,hd⟩,ih (fun b hb=>hs b (by unfold frs; rw [List.filterMap_cons,hf]; exact List.mem_cons_of_mem _ hb)) hr⟩
  exact all X.outer (fun _ hb => hb) I.ok.funs
theorem Inv.stack (I:Inv X pins σ H s):s.heap.FunFrames X.base X.stack:=by
  rcases I.ok.stk with e | ⟨e, hf⟩
  · rw [e]; exact I.funs
  · rw [e]
    obtain ⟨m, hn, _⟩ := I.loc
    refine .cons (by rw [I.ok.kind]; decide) hf hn ?_ I.funs
    exact Heap.get?_none_of_le (Nat.le_trans I.ok.bsz I.ok.above)
theorem Inv.stkSub (I:Inv X pins σ H s):∀ b ∈ frs X.stack,b ∈ X.env.locals :: X.fs:=fun b hb=>by
  rcases I.ok.stk with e | ⟨e, hf⟩
  · rw [e] at hb; exact List.mem_cons_of_mem _ hb
  · rw [e] at hb
    unfold frs at hb
    rw [List.filterMap_cons, hf] at hb
    exact hb
theorem Inv.stkFree (I:Inv X pins σ H s):∀ b ∈ frs X.stack,H b = none:=fun b hb=>by
  rcases List.mem_cons.mp (I.stkSub b hb) with e | hb
  · rw [e]; exact I.free
  · obtain ⟨_, o, ho, _⟩ := I.ok.funs.mem hb
    exact I.base.free b o ho (I.ok.frf b hb) fun z=>I.ok.exfs b z hb
theorem Inv.step {g':Array GenState} {t':Nat} {d':Drawn} {ch:List Addr} (I:Inv X pins σ H s)
    (hch:∀ b ∈ ch,(b ∈ X.ex ∨ X.s₀.heap.objs.size ≤ b)∧b ≠ X.env.locals∧(∀ x c,X.env.cells.lookup x = some c→c ≠ b)∧∀ p ∈ X.pn ++ pins,p.1 ≠ b)
    (keep:∀ b o,b ≠ X.env.locals→b ∉ X.fs→b ∉ ch→s.heap.get? b = some o→H b = none→h'.get? b = some o)
    (slot:∀ b o,b ≠ X.env.locals→b ∈ X.fs→b ∉ ch→s.heap.get? b = some o→H b = none→∃ sl,h'.get? b = some { o with slots:=sl }) (free:∀ b o,b ∉ ch→s.heap.get? b = some o→H b = none→H' b = none)
    (there:∀ b o,b ∉ ch→s.heap.get? b = some o→∃ o',h'.get? b = some o')
    (tups:∀ b xs,H b = some (.tup xs)→H' b = some (.tup xs)) (frzs:∀ b o u,H b = some (.frz o u)→H' b = some (.frz o u)) (tbls:∀ b ps,H b = some (.tbl ps)→∃ more,H' b = some (.tbl (ps ++ more)))
    (ns:∀ m,s.heap.Ns X.env.locals m→h'.Ns X.env.locals m) (hok:HOk X.prog X.w H' h') (hg:AllBare g') :
    Inv X pins σ H' { s with heap:=h',gens:=g',drawn:=d',toks:=t' }:=by
  have neL:∀ b o,X.s₀.heap.get? b = some o→b ≠ X.env.locals:=fun b o e=>Nat.ne_of_lt (Nat.lt_of_lt_of_le (Heap.lt_size e) I.ok.above)
  have neC:∀ b o,X.s₀.heap.get? b = some o→b ∉ X.ex→b ∉ ch:=fun b o e hx hb=>by
    rcases (hch b hb).1 with z | z
    · exact hx z
    · exact absurd (Nat.lt_of_lt_of_le (Heap.lt_size e) z) (Nat.lt_irrefl _)
  have cellK:∀ x c,X.env.cells.lookup x = some c→∀ v,s.heap.IsCell c v→h'.IsCell c v:=fun x c e v ⟨o,ho,hd⟩=>by
    have nch : c ∉ ch := fun z => (hch c z).2.2.1 x c e rfl
    by_cases hc : c ∈ X.fs
    · obtain ⟨sl,q⟩:=slot c o (I.cne x c e) hc nch ho (I.freeC x c e)
      exact ⟨_, q, hd⟩
    · exact ⟨o,keep c o (I.cne x c e) hc nch ho (I.freeC x c e),hd⟩
  refine ⟨I.ok,I.os,hg,⟨fun b o e n hb hx=>?_,fun b o e n hb hx=>?_,fun b o e n hx=>?_,fun b o e hx=>?_,fun b xs e=>tups b xs (I.base.tups b xs e),fun b o xs e=>frzs b o xs (I.base.frzs b o xs e),fun b ps e=>?_⟩,?_,fun x c e=>?_,?_,fun x c e=>?_,fun p hp=>?_,hok,I.len⟩
  · exact keep b o (neL b o e) hb (neC b o e hx) (I.base.keep b o e n hb hx) (I.base.free b o e n hx)
  · obtain ⟨sl, e1⟩ := I.base.slot b o e n hb hx
    obtain ⟨sl',e2⟩:=slot b _ (neL b o e) hb (neC b o e hx) e1 (I.base.free b o e n hx)
    exact ⟨sl', e2⟩
  · obtain ⟨o', e1⟩ := I.base.there b o e hx
    exact free b o' (neC b o e hx) e1 (I.base.free b o e n hx)
  · obtain ⟨o', e1⟩ := I.base.there b o e hx
    exact there b o' (neC b o e hx) e1
  · obtain ⟨m1, e1⟩ := I.base.tbls b ps e
    obtain ⟨m2, e2⟩ := tbls b _ e1
    exact ⟨m1 ++ m2, by rw [e2, Array.append_assoc]⟩
  · obtain ⟨m, hn, hl⟩ := I.loc
    refine ⟨m, ns m hn, fun i x v e1 e2 e3 => ?_⟩
    obtain ⟨u, r, l⟩ := hl i x v e1 e2 e3
    refine ⟨u, r, ?_⟩
    rcases l with l | ⟨k, c, e, z⟩
    · exact .inl l
    · exact .inr ⟨k, c, e, cellK x c e _ z⟩
  · obtain ⟨v, z⟩ := I.cell x c e
    exact ⟨v, cellK x c e v z⟩
  · obtain ⟨m, ⟨o, _, _, ho, _⟩, _⟩ := I.loc
    exact free _ o (fun z => (hch _ z).2.1 rfl) ho I.free
  · obtain ⟨v, o, ho, hd⟩ := I.cell x c e
    exact free c o (fun z=>(hch c z).2.2.1 x c e rfl) ho (I.freeC x c e)
  · obtain ⟨e, n, ne, nf, d⟩ := I.pin p hp
    have nch:p.1 ∉ ch:=fun z=>(hch p.1 z).2.2.2 p hp rfl
    exact ⟨keep p.1 p.2 ne nf nch e n,free p.1 p.2 nch e n,ne,nf,d⟩
theorem Inv.un {t':Nat} (I:Inv X pins σ H s) (u:Un X.fs [] H H' s.heap h') (hok:HOk X.prog X.w H' h'):Inv X pins σ H' { s with heap:=h',toks:=t' }:=by
  obtain ⟨m, ⟨o, es, ep, ho, r⟩, _⟩ := id I.loc
  obtain ⟨sl, hL⟩ := u.any ho I.free (by simp)
  exact I.step (g':=s.gens) (d':=s.drawn) (ch:=[]) (fun _ z=>nomatch z) (fun b o _ hb _ e n=>u.keep b o e n hb (by simp)) (fun b o _ hb _ e n=>u.slot b o e n hb (by simp)) (fun b o _ e n=>u.free b o e n (by simp)) (fun b o _ e=>u.there b o e (by simp)) u.tups u.frzs u.tbls (fun m' hm=>by
    obtain ⟨o', es', ep', ho', r'⟩ := hm
    rw [ho] at ho'; cases ho'
    exact ⟨_, es', ep', hL, r'⟩) hok I.bare
theorem Inv.call {g':Array GenState} {t':Nat} {d':Drawn} {ch:List Addr} (I:Inv X pins σ H s) (u:Un (frs X.stack) ch H H' s.heap h') (hok:HOk X.prog X.w H' h') (hg:AllBare g')
    (hch:∀ b ∈ ch,(b ∈ X.ex ∨ X.s₀.heap.objs.size ≤ b)∧b ≠ X.env.locals∧(∀ x c,X.env.cells.lookup x = some c→c ≠ b)∧∀ p ∈ X.pn ++ pins,p.1 ≠ b) :
    Inv X pins σ H' { s with heap:=h',gens:=g',drawn:=d',toks:=t' }:=by
  obtain ⟨m, ⟨o, es, ep, ho, r⟩, _⟩ := id I.loc
  obtain ⟨sl,hL⟩:=u.any ho I.free fun z=>(hch _ z).2.1 rfl
  exact I.step (ch:=ch) hch (fun b o hL hb hc e n=>u.keep b o e n (fun z=>(List.mem_cons.mp (I.stkSub b z)).elim hL hb) hc) (fun b o _ _ hc e n=>u.any e n hc) (fun b o hc e n=>u.free b o e n hc) (fun b o hc e=>u.there b o e hc) u.tups u.frzs u.tbls (fun m' hm=>by
    obtain ⟨o', es', ep', ho', r'⟩ := hm
    rw [ho] at ho'; cases ho'
    exact ⟨_, es', ep', hL, r'⟩) hok hg
theorem Inv.turned {t':Nat} {it:Addr} (I:Inv X pins σ H s) (k:∀ b o,b ≠ it→s.heap.get? b = some o→h'.get? b = some o) (hn:H it = none) (hL:it ≠ X.env.locals)
    (h1:it ∈ X.ex ∨ X.s₀.heap.objs.size ≤ it) (h2:∀ x c,X.env.cells.lookup x = some c→c ≠ it) (h3:∀ p ∈ X.pn ++ pins,p.1 ≠ it):Inv X pins σ H { s with heap:=h',toks:=t' }:=by
  have nit:∀ b u,H b = some u→b ≠ it:=fun b u e z=>by rw [z,hn] at e; cases e
  refine I.step (g':=s.gens) (d':=s.drawn) (ch:=[it]) (fun b hb=>?_) (fun b o _ _ hc e _=>k b o (fun z=>hc (by simp [z])) e) (fun b o _ _ hc e _=>⟨o.slots,k b o (fun z=>hc (by simp [z])) e⟩) (fun _ _ _ _ n=>n)
    (fun b o hc e=>⟨o,k b o (fun z=>hc (by simp [z])) e⟩) (fun _ _ e=>e) (fun _ _ _ e=>e) (fun b ps e=>⟨#[],by rw [e]; simp⟩) (fun m hm=>?_) (fun b u e=>?_) I.bare
  · have e : b = it := by simpa using hb
    subst e
    exact ⟨h1, hL, h2, h3⟩
  · obtain ⟨o, es, ep, ho, r⟩ := hm
    exact ⟨o, es, ep, k _ o (Ne.symm hL) ho, r⟩
  · refine (I.hok b u e).stay (fun c v hc q=>k c v ?_ q) (fun _ q=>q) fun _ _ q=>q
    rcases hc with z | z
    · rw [z]; exact nit b u e
    · exact nit c _ z
theorem Inv.tok (I:Inv X pins σ H s) (t:Nat):Inv X pins σ H { s with toks:=t }:=I.un (h':=s.heap) (t':=t) Un.refl I.hok
theorem Inv.kept {t':Nat} (I:Inv X pins σ H s) (k:∀ b u,s.heap.get? b = some u→h'.get? b = some u):Inv X pins σ H { s with heap:=h',toks:=t' }:=I.un (Un.kept k) (I.hok.kept k)
theorem Inv.laid {a:Addr} {o:HO} {t':Nat} (I:Inv X pins σ H s) (k:∀ b u,s.heap.get? b = some u→h'.get? b = some u) (hp:s.heap.objs.size ≤ a) (new:ObjOk X.prog X.w (upd H a o) h' a o) :
    Inv X pins σ (upd H a o) { s with heap:=h',toks:=t' }:=I.un (Un.laid k hp (I.hok.fresh hp)) (I.hok.laid k hp new)
theorem Inv.write {x e:Addr} {o:HO} {t':Nat} (I:Inv X pins σ H s) (mu:Mut (H x)) (he:e = x ∨ H e = some (.own x)) (k:∀ b u,b ≠ e→s.heap.get? b = some u→h'.get? b = some u) (heo:∃ u,h'.get? e = some u)
    (new:ObjOk X.prog X.w (upd H x o) h' x o):Inv X pins σ (upd H x o) { s with heap:=h',toks:=t' }:=I.un (Un.write mu he k heo) (I.hok.write mu he k heo new)
theorem Inv.weak {σ':List (Option V)} (I:Inv X pins σ H s) (hl:σ'.length = σ.length) (w:∀ (i:Nat) v,σ'[i]? = some (some v)→σ[i]? = some (some v)):Inv X pins σ' H s :=
  ⟨I.ok,I.os,I.bare,I.base,let ⟨m,hn,hl'⟩:=I.loc; ⟨m,hn,fun i x v e1 e2 e3=>hl' i x v e1 (w i v e2) e3⟩,I.cell,I.free,I.freeC,I.pin,I.hok,hl.trans I.len⟩
theorem Inv.pins_of {pins':List (Addr × Obj)} (I:Inv X pins σ H s) (h:∀ p ∈ pins',s.heap.get? p.1 = some p.2∧H p.1 = none∧p.1 ≠ X.env.locals∧p.1 ∉ X.fs∧∀ v,p.2.data ≠ .cell v):Inv X pins' σ H s :=
  ⟨I.ok,I.os,I.bare,I.base,I.loc,I.cell,I.free,I.freeC,fun p hp=>(List.mem_append.mp hp).elim (fun z=>I.pin p (List.mem_append_left _ z)) (h p),I.hok,I.len⟩
theorem nodup_ix {N:List Str} (hN:N.Nodup) {i j:Nat} {x:Str} (a:N[i]? = some x) (b:N[j]? = some x):i = j:=by
  obtain ⟨h1, e1⟩ := List.getElem?_eq_some_iff.mp a
  obtain ⟨h2, e2⟩ := List.getElem?_eq_some_iff.mp b
  exact (List.getElem_inj hN).mp (e1.trans e2.symm)
theorem store_ok2 {M:Model} {A:Around} {E:Value→Shared→Prop} {i:Nat} {x:Str} {v:V} {u:Value} {Q:Unit→Shared→Prop} (I:Inv X pins σ H s) (hN:X.N.Nodup) (hi:X.N[i]? = some x) (hx:Loc X.env.scope x) (r:RelV v u)
    (h:∀ s',Inv X pins (σ.set i (some v)) H s'→(∃ a,Heap.SameBut a s.heap s'.heap∧(a = X.env.locals ∨ X.env.cells.lookup x = some a))→Q () s') (hf:X.fn x = true ∨ X.env.scope.names.lookup x = some .local:=by first | exact .inl rfl | exact .inr rfl | assumption):wpAny M A (storeName X.env x u) Q E s:=by
  obtain ⟨m, hn, hl⟩ := id I.loc
  have hcls:(X.env.scope.kind == .class || (X.env.scope.kind == .module && X.env.locals != X.env.globals)) = false:=by rw [I.ok.kind]; rfl
  have hiσ:i < σ.length:=by rw [I.len]; exact (List.getElem?_eq_some_iff.mp hi).1
  have cne := I.cne
  have tracked:∀ {a:Addr} {h':Heap},(∃ o,s.heap.get? a = some o∧H a = none)→Heap.SameBut a s.heap h'→HOk X.prog X.w H h':=fun {a h'} ha hs b ob e=>by
    obtain ⟨_, _, hfree⟩ := ha
    refine (I.hok b ob e).stay (fun c w' hc q=>(hs.2 c ?_).trans q) (fun _ q=>q) fun _ _ q=>q
    rintro rfl
    rcases hc with rfl | hc
    · rw [hfree] at e; cases e
    · rw [hfree] at hc; cases hc
  rcases hx with hk | hk
  · refine wpAny_storeName_local hk hn (fun h' hn' hs=>?_) hcls
    obtain ⟨oL, _, _, hoL, _⟩ := id hn
    refine h _ ⟨I.ok,I.os,I.bare,⟨fun b o e n hb hx=>?_,fun b o e n hb hx=>?_,I.base.free,fun b o e hx=>?_,I.base.tups,I.base.frzs,I.base.tbls⟩,⟨_,hn',fun j y v' e1 e2 e3=>?_⟩,fun y c e=>?_,I.free,I.freeC,fun p hp=>?_,tracked ⟨oL,hoL,I.free⟩ hs,by simpa using I.len⟩ ⟨_,hs,.inl rfl⟩
    · exact (hs.2 b (Nat.ne_of_lt (Nat.lt_of_lt_of_le (Heap.lt_size e) I.ok.above))).trans (I.base.keep b o e n hb hx)
    · obtain ⟨sl, e1⟩ := I.base.slot b o e n hb hx
      exact ⟨sl,(hs.2 b (Nat.ne_of_lt (Nat.lt_of_lt_of_le (Heap.lt_size e) I.ok.above))).trans e1⟩
    · obtain ⟨o', e1⟩ := I.base.there b o e hx
      exact ⟨o',(hs.2 b (Nat.ne_of_lt (Nat.lt_of_lt_of_le (Heap.lt_size e) I.ok.above))).trans e1⟩
    · by_cases hj : j = i
      · subst hj
        rw [hi] at e1; cases e1
        rw [List.getElem?_set_self hiσ] at e2
        cases e2
        exact ⟨u, r, .inl ⟨hk, by simp⟩⟩
      · rw [List.getElem?_set_ne (Ne.symm hj)] at e2
        obtain ⟨u', r', q⟩ := hl j y v' e1 e2 e3
        refine ⟨u', r', ?_⟩
        rcases q with ⟨k, e⟩ | ⟨k, c, e, z⟩
        · refine .inl ⟨k, ?_⟩
          have:y ≠ x:=fun e=>hj (nodup_ix hN e1 (e ▸ hi))
          simp [this, e]
        · exact .inr ⟨k, c, e, z.sameBut hs (cne y c e)⟩
    · obtain ⟨w', z⟩ := I.cell y c e
      exact ⟨w', z.sameBut hs (cne y c e)⟩
    · obtain ⟨e, n, ne, nf, d⟩ := I.pin p hp
      exact ⟨(hs.2 p.1 ne).trans e, n, ne, nf, d⟩
  · have hfn : X.fn x = true := by
      rcases hf with z | z
      · exact z
      · rw [z] at hk; cases hk
    obtain ⟨c, hc⟩ := I.ok.has x (.inl hk)
    obtain ⟨w', z⟩ := I.cell x c hc
    refine wpAny_storeName_cell I.ok.kind hk hc z (fun h' hc' hs=>?_)
    obtain ⟨oc, hoc, hocd⟩ := id z
    refine h { s with heap:=h' } ⟨I.ok,I.os,I.bare,⟨fun b o e n hb hx=>?_,fun b o e n hb hx=>?_,I.base.free,fun b o e hx=>?_,I.base.tups,I.base.frzs,I.base.tbls⟩,⟨m,hn.sameBut hs (Ne.symm (cne x c hc)),fun j y v' e1 e2 e3=>?_⟩,fun y c' e=>?_,I.free,I.freeC,fun p hp=>?_,tracked ⟨oc,hoc,I.freeC x c hc⟩ hs,by simpa using I.len⟩ ⟨c,hs,.inr hc⟩
    · exact (hs.2 b (Nat.ne_of_lt (Nat.lt_of_lt_of_le (Heap.lt_size e) (I.ok.cab x c hfn hc)))).trans (I.base.keep b o e n hb hx)
    · obtain ⟨sl, e1⟩ := I.base.slot b o e n hb hx
      exact ⟨sl,(hs.2 b (Nat.ne_of_lt (Nat.lt_of_lt_of_le (Heap.lt_size e) (I.ok.cab x c hfn hc)))).trans e1⟩
    · obtain ⟨o', e1⟩ := I.base.there b o e hx
      exact ⟨o',(hs.2 b (Nat.ne_of_lt (Nat.lt_of_lt_of_le (Heap.lt_size e) (I.ok.cab x c hfn hc)))).trans e1⟩
    · by_cases hj : j = i
      · subst hj
        rw [hi] at e1; cases e1
        rw [List.getElem?_set_self hiσ] at e2
        cases e2
        exact ⟨u, r, .inr ⟨.inl hk, c, hc, hc'⟩⟩
      · rw [List.getElem?_set_ne (Ne.symm hj)] at e2
        obtain ⟨u', r', q⟩ := hl j y v' e1 e2 e3
        refine ⟨u', r', ?_⟩
        rcases q with q | ⟨k, c', e, z'⟩
        · exact .inl q
        · refine .inr ⟨k, c', e, z'.sameBut hs ?_⟩
          rintro rfl
          exact hj (nodup_ix hN e1 (I.ok.inj _ _ _ e hc ▸ hi))
    · by_cases hcc : c' = c
      · subst hcc; exact ⟨_, hc'⟩
      · obtain ⟨w2, z2⟩ := I.cell y c' e
        exact ⟨w2, z2.sameBut hs hcc⟩
    · obtain ⟨e, n, ne, nf, d⟩ := I.pin p hp
      refine ⟨(hs.2 p.1 ?_).trans e, n, ne, nf, d⟩
      intro q
      rw [q, hoc] at e
      have q' : oc = p.2 := Option.some.inj e
      exact d w' (by rw [← q']; exact hocd)
theorem store_ok {M:Model} {A:Around} {E:Value→Shared→Prop} {i:Nat} {x:Str} {v:V} {u:Value} {Q:Unit→Shared→Prop} (I:Inv X pins σ H s) (hN:X.N.Nodup) (hi:X.N[i]? = some x) (hx:Loc X.env.scope x) (r:RelV v u)
    (h:∀ s',Inv X pins (σ.set i (some v)) H s'→Q () s') (hf:X.fn x = true ∨ X.env.scope.names.lookup x = some .local:=by first | exact .inl rfl | exact .inr rfl | assumption):wpAny M A (storeName X.env x u) Q E s :=
  store_ok2 I hN hi hx r (fun s' I' _ => h s' I') hf
theorem Inv.call' {s':Shared} {ch:List Addr} (I:Inv X pins σ H s) (ho:s'.os = s.os) (u:Un (frs X.stack) ch H H' s.heap s'.heap) (hok:HOk X.prog X.w H' s'.heap) (hg:AllBare s'.gens)
    (hch:∀ b ∈ ch,(b ∈ X.ex ∨ X.s₀.heap.objs.size ≤ b)∧b ≠ X.env.locals∧(∀ x c,X.env.cells.lookup x = some c→c ≠ b)∧∀ p ∈ X.pn ++ pins,p.1 ≠ b):Inv X pins σ H' s':=by
  obtain ⟨h', g', d', t', o'⟩ := s'
  have e : o' = s.os := ho
  subst e
  exact I.call (g' := g') (t' := t') (d' := d') u hok hg hch
end
abbrev XK := Value → Option Addr → Hp → Prop
abbrev St := List (Option V)
abbrev VK := V → Hp → Prop
abbrev TE := St → Hp → VK → Prop
abbrev TT := St → Hp → (Bool → Hp → Prop) → Prop
abbrev TA := St → Hp → (List V → Hp → Prop) → Prop
structure Ends where
  nx : St → Hp → Prop
  rt : VK
  bk : St → Hp → Prop := fun _ _ => False
  ct : St → Hp → Prop := fun _ _ => False
abbrev TS := Ends → St → Hp → Prop
def EP (X:Cx) (pins:List (Addr × Obj)) (σ:St) (Q:VK) (u:Value) (s':Shared):Prop:=∃ v H',Inv X pins σ H' s'∧RelV v u∧Q v H'
def TP (X:Cx) (pins:List (Addr × Obj)) (σ:St) (Q:Bool→Hp→Prop) (b:Bool) (s':Shared):Prop:=∃ H',Inv X pins σ H' s'∧Q b H'
def AP (X:Cx) (pins:List (Addr × Obj)) (σ:St) (Q:List V→Hp→Prop) (us:List Value) (s':Shared):Prop:=∃ vs H',Inv X pins σ H' s'∧Vals vs us∧Q vs H'
def SP (X:Cx) (pins:List (Addr × Obj)) (D:Ends) (f:Flow) (s':Shared):Prop :=
  match f with
  | .next => ∃ σ' H', Inv X pins σ' H' s' ∧ D.nx σ' H'
  | .brk => ∃ σ' H', Inv X pins σ' H' s' ∧ D.bk σ' H'
  | .cont => ∃ σ' H', Inv X pins σ' H' s' ∧ D.ct σ' H'
  | .ret u=>∃ v σ' H',Inv X pins σ' H' s'∧RelV v u∧D.rt v H'
def PE (X : Cx) (e : Expr) (t : TE) : Prop :=
  ∀ (pins:List (Addr × Obj)) (s:Shared) (σ:St) (H:Hp) (Q:VK),Inv X pins σ H s→t σ H Q→wpAny (model X.prog X.w) X.A (eval e X.env) (EP X pins σ Q) X.xe s
def PT (X : Cx) (e : Expr) (t : TT) : Prop :=
  ∀ (pins:List (Addr × Obj)) (s:Shared) (σ:St) (H:Hp) (Q:Bool→Hp→Prop),Inv X pins σ H s→t σ H Q→wpAny (model X.prog X.w) X.A (isTrue e X.env (eval e X.env)) (TP X pins σ Q) X.xe s
def PW (X : Cx) (e : Expr) (t : TT) : Prop :=
  ∀ (whole:Sem Value) (pins:List (Addr × Obj)) (s:Shared) (σ:St) (H:Hp) (Q:Bool→Hp→Prop),Inv X pins σ H s→t σ H Q→wpAny (model X.prog X.w) X.A (isTrue e X.env whole) (TP X pins σ Q) X.xe s
theorem PW.pt {X:Cx} {e:Expr} {t:TT} (h:PW X e t):PT X e t:=h _
def PA (X : Cx) (es : List Expr) (t : TA) : Prop :=
  ∀ (pos:Pos) (pins:List (Addr × Obj)) (s:Shared) (σ:St) (H:Hp) (Q:List V→Hp→Prop),Inv X pins σ H s→t σ H Q→wpAny (model X.prog X.w) X.A (spliced (backTo pos (starEach es X.env))) (AP X pins σ Q) X.xe s
def PS (X : Cx) (st : Stmt) (t : TS) : Prop :=
  ∀ (pins:List (Addr × Obj)) (s:Shared) (σ:St) (H:Hp) (D:Ends),Inv X pins σ H s→t D σ H→wpAny (model X.prog X.w) X.A (exec st X.env) (SP X pins D) X.xe s
def PSs (X : Cx) (st : List Stmt) (t : TS) : Prop :=
  ∀ (pins:List (Addr × Obj)) (s:Shared) (σ:St) (H:Hp) (D:Ends),Inv X pins σ H s→t D σ H→wpAny (model X.prog X.w) X.A (execs st X.env) (SP X pins D) X.xe s
theorem thn {α:Type} {t:Sem α} {Q Q':α→Shared→Prop} {M:Model} {A:Around} {E:Value→Shared→Prop} {s:Shared} (h:wpAny M A t Q E s) (hQ:∀ a s,Q a s→Q' a s):wpAny M A t Q' E s:=wpAny_mono h hQ fun _ _ x=>x
end L2
namespace L2
open PySem PySem.Spec PyProof.Rows
section
variable {X : Cx}
def tVar (i:Nat):TE:=fun σ H Q=>∃ v,σ[i]? = some (some v)∧Q v H
def tC (v : V) : TE := fun _ H Q => Q v H
theorem pe_var {i:Nat} {x:Str} {pos:Pos} (hN:X.N[i]? = some x) (hv:Vis X.env.scope x) (hd:(x == ("__debug__":Str)) = false:=by decide) (hcd:(x == ("__classdict__":Str)) = false:=by decide):PE X (.Name x pos) (tVar i):=by
  intro pins s σ H Q I h
  obtain ⟨v, e, h⟩ := h
  obtain ⟨m, hn, hl⟩ := I.loc
  obtain ⟨u, r, l⟩ := hl i x v hN e hv
  have fin : EP X pins σ Q u s := ⟨v, H, I, r, h⟩
  rcases l with ⟨hk, hm⟩ | ⟨hk, c, hc, hcell⟩
  · exact wpAny_Name (wpAny_loadName_local I.ok.kind hk hn hm fin) hd
  · rcases hk with hk | hk
    · exact wpAny_Name (wpAny_loadName_cell I.ok.kind hk hc hcell fin) hd
    · exact wpAny_Name (wpAny_loadName_free I.ok.kind hk hc hcell fin hcd) hd
theorem pe_int {i j pos}:PE X (.Constant (.int i) j pos) (tC (.int i)):=fun _ _ _ H _ I h=>wpAny_Constant_int ⟨.int i,H,I.tok _,⟨_,rfl⟩,h⟩
theorem pe_bl {b j pos}:PE X (.Constant (.bool b) j pos) (tC (.bl b)):=fun _ _ _ H _ I h=>Constant_bool ⟨.bl b,H,I,rfl,h⟩
theorem pe_non {j pos}:PE X (.Constant .none j pos) (tC .non):=fun _ _ _ H _ I h=>Constant_none ⟨.non,H,I,rfl,h⟩
theorem pe_str {x j pos}:PE X (.Constant (.str x) j pos) (tC (.str x)):=fun _ _ _ H _ I h=>Calls.Constant_str ⟨.str x,H,I.tok _,⟨_,rfl⟩,h⟩
def Gl (X:Cx) (x:Str):Prop:=X.env.kindOf x = some .globalImplicit
theorem ld_glob {E:Value→Shared→Prop} {pins:List (Addr × Obj)} {s:Shared} {σ:St} {H:Hp} {x:Str} {u:Value} {pos:Pos} {Q:Value→Shared→Prop} (I:Inv X pins σ H s) (hg:Gl X x) (hm:X.mg x = some u) (h:Q u s)
    (hd:(x == ("__debug__":Str)) = false:=by decide):wpAny (model X.prog X.w) X.A (eval (.Name x pos) X.env) Q E s :=
  Calls.Name_function_global I.ok.kind hg (Calls.loadGlobal_global (by rw [I.ok.glob]; exact I.mod.glob.keeps I.bk) hm h) hd
theorem ld_blt {E:Value→Shared→Prop} {pins:List (Addr × Obj)} {s:Shared} {σ:St} {H:Hp} {x:Str} {u:Value} {pos:Pos} {Q:Value→Shared→Prop} (I:Inv X pins σ H s) (hg:Gl X x) (hm:X.mg x = none) (hv:bootBuiltins x = some u) (h:Q u s)
    (hn:x ≠ "__name__":=by decide) (hd:(x == ("__debug__":Str)) = false:=by decide):wpAny (model X.prog X.w) X.A (eval (.Name x pos) X.env) Q E s:=by
  obtain ⟨mb, h1, h2⟩ := I.mod.blt
  exact Calls.Name_function_global I.ok.kind hg (Calls.loadGlobal_builtin (by rw [I.ok.glob]; exact I.mod.glob.keeps I.bk) hm (by rw [I.ok.blt]; exact h1.keeps I.bk) ((h2 x hn).trans hv) h) hd
theorem pe_glob {x:Str} {v:V} {u:Value} {pos:Pos} (hg:Gl X x) (hm:X.mg x = some u) (r:RelV v u) (hd:(x == ("__debug__":Str)) = false:=by decide):PE X (.Name x pos) (tC v) :=
  fun _ _ _ H _ I h => ld_glob I hg hm ⟨v, H, I, r, h⟩ hd
theorem pe_bltn {x:Str} {v:V} {u:Value} {pos:Pos} (hg:Gl X x) (hm:X.mg x = none) (hv:bootBuiltins x = some u) (r:RelV v u) (hn:x ≠ "__name__":=by decide) (hd:(x == ("__debug__":Str)) = false:=by decide):PE X (.Name x pos) (tC v) :=
  fun _ _ _ H _ I h=>ld_blt I hg hm hv ⟨v,H,I,r,h⟩ hn hd
variable {a b : Expr} {ta tb : TE} {pos : Pos}
def PC (X : Cx) (op : CmpOp) (a b : Expr) (t : TE) : Prop :=
  ∀ (pins:List (Addr × Obj)) (s:Shared) (σ:St) (H:Hp) (Q:VK),Inv X pins σ H s→t σ H Q →
    wpAny (model X.prog X.w) X.A (eval a X.env) (fun v s₁=>wpAny (model X.prog X.w) X.A (eval b X.env) (fun u s₂=>wpAny (model X.prog X.w) X.A (compareOp op v u) (EP X pins σ Q) X.xe s₂) X.xe s₁) X.xe s
def tB (t:TE):TT:=fun σ H Q=>t σ H fun x H1=>∃ c,x = .bl c∧Q c H1
theorem pt_cmp {op:CmpOp} {t:TE} (h:PC X op a b t) (h1:behindInMarks op b = false:=by first | exact nobehind _ (by decide) (by decide) | rfl):PT X (.Compare a [op] [b] pos) (tB t):=by
  intro pins s σ H Q I hw
  refine wpAny_isTrue_Compare1 (thn (h pins s σ H _ I hw) fun v s1 h1=>thn h1 fun u s2 h2=>thn h2 fun c s3 ⟨x,H1,I1,r1,q1⟩=>?_) h1
  obtain ⟨d, rfl, q⟩ := q1
  cases r1
  exact wpAny_truthy_bool ⟨H1, I1, q⟩
theorem pt_val {e:Expr} {t:TE} (h:PE X e t) (he:∀ whole,isTrue e X.env whole = (do let v ← whole; standAt e.pos; holding [v] (truthy v)):=by intro _; rfl):PT X e (tB t):=by
  intro pins s σ H Q I hw
  refine isTrue_plain (thn (h pins s σ H _ I hw) fun v s1 ⟨x,H1,I1,r1,q1⟩=>?_) (he _)
  obtain ⟨d, rfl, q⟩ := q1
  cases r1
  exact wpAny_truthy_bool ⟨H1, I1, q⟩
variable {tA tB' : TT} {rest : List Expr}
def tAnd (t u:TT):TT:=fun σ H Q=>t σ H fun c H1=>if c = true then u σ H1 Q else Q false H1
def tOr (t u:TT):TT:=fun σ H Q=>t σ H fun c H1=>if c = true then Q true H1 else u σ H1 Q
def tNot (t:TT):TT:=fun σ H Q=>t σ H fun c H1=>Q (!c) H1
theorem pw_and1 (ha:PT X a tA):PW X (.BoolOp .And [a] pos) tA:=by
  intro wh pins s σ H Q I h
  refine isTrue_and (thn (ha pins s σ H Q I h) fun c s1 e=>?_)
  cases c with
  | true => exact isTrue_and_nil e
  | false => exact e
theorem pw_or1 (ha:PT X a tA):PW X (.BoolOp .Or [a] pos) tA:=by
  intro wh pins s σ H Q I h
  refine isTrue_or (thn (ha pins s σ H Q I h) fun c s1 e=>?_)
  cases c with
  | false => exact isTrue_or_nil e
  | true => exact e
theorem pw_and (ha:PT X a tA) (hb:PW X (.BoolOp .And (b :: rest) pos) tB'):PW X (.BoolOp .And (a :: b :: rest) pos) (tAnd tA tB'):=by
  intro wh pins s σ H Q I h
  refine isTrue_and (thn (ha pins s σ H _ I h) fun c s1 ⟨H1,I1,q1⟩=>?_)
  cases c with
  | true => exact hb wh pins s1 σ H1 Q I1 q1
  | false => exact ⟨H1, I1, q1⟩
theorem pw_or (ha:PT X a tA) (hb:PW X (.BoolOp .Or (b :: rest) pos) tB'):PW X (.BoolOp .Or (a :: b :: rest) pos) (tOr tA tB'):=by
  intro wh pins s σ H Q I h
  refine isTrue_or (thn (ha pins s σ H _ I h) fun c s1 ⟨H1,I1,q1⟩=>?_)
  cases c with
  | true => exact ⟨H1, I1, q1⟩
  | false => exact hb wh pins s1 σ H1 Q I1 q1
theorem pt_not (ha:PT X a tA):PT X (.UnaryOp .Not a pos) (tNot tA):=by
  intro pins s σ H Q I h
  exact isTrue_not (ha pins s σ H (fun c H1=>Q (!c) H1) I h)
def tAndV (ta tb:TE):TE:=fun σ H Q=>ta σ H fun x H1=>∃ c,x = .bl c∧if c = true then tb σ H1 Q else Q (.bl false) H1
def tNotV (ta:TE):TE:=fun σ H Q=>ta σ H fun x H1=>∃ c,x = .bl c∧Q (.bl (!c)) H1
theorem pe_one {op} {t:TE} (h:PE X a t):PE X (.BoolOp op [a] pos) t:=fun pins s σ H Q I hw=>BoolOp_one (h pins s σ H Q I hw)
theorem pe_and (ha:PE X a ta) (hb:PE X (.BoolOp .And (b :: rest) pos) tb):PE X (.BoolOp .And (a :: b :: rest) pos) (tAndV ta tb):=by
  intro pins s σ H Q I h
  refine BoolOp_and (thn (ha pins s σ H _ I h) fun v s1 ⟨x,H1,I1,r1,q1⟩=>?_)
  obtain ⟨c, rfl, q1⟩ := q1
  cases r1
  refine wpAny_truthy_bool ?_
  cases c with
  | true => exact hb pins s1 σ H1 Q I1 q1
  | false => exact ⟨.bl false, H1, I1, rfl, q1⟩
theorem pe_not (ha:PE X a ta):PE X (.UnaryOp .Not a pos) (tNotV ta):=by
  intro pins s σ H Q I h
  refine UnaryOp_ (thn (ha pins s σ H _ I h) fun v s1 ⟨x,H1,I1,r1,q1⟩=>?_)
  obtain ⟨c, rfl, q1⟩ := q1
  cases r1
  exact not_of (wpAny_truthy_bool ⟨.bl (!c),H1,I1,rfl,q1⟩)
def tIf (t:TT) (ta tb:TE):TE:=fun σ H Q=>t σ H fun c H1=>if c = true then ta σ H1 Q else tb σ H1 Q
theorem pe_ifExp {c:Expr} (hc:PT X c tA) (ha:PE X a ta) (hb:PE X b tb):PE X (.IfExp c a b pos) (tIf tA ta tb):=by
  intro pins s σ H Q I h
  refine wpAny_IfExp (thn (hc pins s σ H _ I h) fun d s1 ⟨H1,I1,q1⟩=>?_)
  cases d with
  | true => exact ha pins s1 σ H1 Q I1 q1
  | false => exact hb pins s1 σ H1 Q I1 q1
end
end L2
namespace L2
open PySem PySem.Spec PyProof.Rows
def SqL (K:PySem.W.Frag) (H:Hp) (a:Addr) (xs:List V):Prop :=
  Rd H a (.lst xs) ∨
    ∃ (o:Obj) (its:Array Value) (n:Nat),K.lookup a = some o∧o.cls = .type "list"∧o.dict = none∧o.data = .seq its n∧its.size ≤ sizeLine∧Vals xs its.toList
def SqT (K:PySem.W.Frag) (H:Hp) (a:Addr) (xs:List V):Prop :=
  Rd H a (.tup xs) ∨
    ∃ (o:Obj) (its:Array Value) (n:Nat),K.lookup a = some o∧o.cls = .type "tuple"∧o.data = .seq its n∧its.size ≤ sizeLine∧Vals xs its.toList
def absV : Value → Option V
  | .none => some .non
  | .bool b => some (.bl b)
  | .int i _ => some (.int i)
  | .str x _ => some (.str x)
  | .bytes b _ => some (.byt b)
  | .float b _ => some (.flt b)
  | .ref a => some (.ref a)
  | .type n => some (.ty n)
  | _ => none
theorem RelV.abs {x:V} {u:Value} (r:RelV x u):absV u = some x:=by
  cases x with
  | non => cases r; rfl
  | bl _ => cases r; rfl
  | int _ => obtain ⟨t, rfl⟩ := r; rfl
  | str _ => obtain ⟨t, rfl⟩ := r; rfl
  | byt _ => obtain ⟨t, rfl⟩ := r; rfl
  | flt _ => obtain ⟨t, rfl⟩ := r; rfl
  | ref _ => cases r; rfl
  | ty _ => cases r; rfl
theorem RelV.inj {x y:V} {u:Value} (r:RelV x u) (q:RelV y u):x = y:=Option.some.inj (r.abs.symm.trans q.abs)
theorem Vals.inj:∀ {xs ys:List V} {us:List Value},Vals xs us→Vals ys us→xs = ys
  | _, _, _, .nil, .nil => rfl
  | _,_,_,.cons r t,.cons r' t'=>by rw [r.inj r',Vals.inj t t']
section
variable {X:Cx} {pins:List (Addr × Obj)} {σ:St} {H:Hp} {s:Shared} {a:Addr} {xs ys:List V}
theorem SqL.of {K:PySem.W.Frag} (h:H a = some (.lst xs)):SqL K H a xs:=.inl (.inl h)
theorem SqT.of {K:PySem.W.Frag} (h:H a = some (.tup xs)):SqT K H a xs:=.inl (.inl h)
theorem Inv.list (I:Inv X pins σ H s) (h:SqL X.K H a xs):∃ its:List Value,Vals xs its∧PlainL s.heap a its.toArray∧xs.length ≤ sizeLine:=by
  rcases h with h | ⟨o, its, n, hk, hc, hd, hs, hz, r⟩
  · obtain ⟨z, its, n, r, e⟩ := h.ok I.hok
    exact ⟨its, r, ⟨_, n, e, rfl, rfl, rfl⟩, z⟩
  · refine ⟨its.toList,r,⟨o,n,I.kIn a o hk,hc,hd,by simpa using hs⟩,?_⟩
    have e := r.length
    simp only [Array.length_toList] at e
    omega
theorem Inv.tuple (I:Inv X pins σ H s) (h:SqT X.K H a xs):∃ its:List Value,Vals xs its∧IsTup s.heap a its.toArray∧xs.length ≤ sizeLine:=by
  rcases h with h | ⟨o, its, n, hk, hc, hs, hz, r⟩
  · obtain ⟨z, its, r, p⟩ := h.ok I.hok
    exact ⟨its, r, p, z⟩
  · refine ⟨its.toList,r,⟨o,I.kIn a o hk,hc,n,by simpa using hs⟩,?_⟩
    have e := r.length
    simp only [Array.length_toList] at e
    omega
theorem Inv.list_inj (I:Inv X pins σ H s) (h:SqL X.K H a xs) (h':SqL X.K H a ys):xs = ys:=by
  obtain ⟨its, r, ⟨o, n, e, _, _, d⟩, _⟩ := I.list h
  obtain ⟨its', r', ⟨o', n', e', _, _, d'⟩, _⟩ := I.list h'
  rw [e] at e'; cases e'
  rw [d] at d'
  injection d' with d1 _
  have:its = its':=by simpa using congrArg Array.toList d1
  subst this
  exact r.inj r'
theorem Inv.tuple_inj (I:Inv X pins σ H s) (h:SqT X.K H a xs) (h':SqT X.K H a ys):xs = ys:=by
  obtain ⟨its, r, ⟨o, e, _, n, d⟩, _⟩ := I.tuple h
  obtain ⟨its', r', ⟨o', e', _, n', d'⟩, _⟩ := I.tuple h'
  rw [e] at e'; cases e'
  rw [d] at d'
  injection d' with d1 _
  have:its = its':=by simpa using congrArg Array.toList d1
  subst this
  exact r.inj r'
end
abbrev Cx.wish (X:Cx) (E:Value→Shared→Prop):Cx:={ X with xe:=E }
abbrev Cx.nox (X : Cx) : Cx := X.wish fun _ _ => False
theorem Cx.Ok.wish {X:Cx} (ok:X.Ok) (E:Value→Shared→Prop):(X.wish E).Ok :=
  ⟨ok.mod,ok.kind,ok.glob,ok.blt,ok.above,ok.inj,ok.has,ok.cab,ok.hd,ok.frames,ok.stk,ok.exf,ok.bs,ok.bsz,ok.noex,ok.exfs,ok.funs,ok.frf⟩
theorem Cx.Ok.unwish {X:Cx} {E:Value→Shared→Prop} (ok:(X.wish E).Ok):X.Ok :=
  ⟨ok.mod,ok.kind,ok.glob,ok.blt,ok.above,ok.inj,ok.has,ok.cab,ok.hd,ok.frames,ok.stk,ok.exf,ok.bs,ok.bsz,ok.noex,ok.exfs,ok.funs,ok.frf⟩
section
variable {X:Cx} {pins:List (Addr × Obj)} {σ:St} {H:Hp} {s:Shared} {E:Value→Shared→Prop}
theorem Inv.wish (I:Inv X pins σ H s) (E:Value→Shared→Prop):Inv (X.wish E) pins σ H s:=⟨I.ok.wish E,I.os,I.bare,I.base,I.loc,I.cell,I.free,I.freeC,I.pin,I.hok,I.len⟩
theorem Inv.unwish (I:Inv (X.wish E) pins σ H s):Inv X pins σ H s:=⟨I.ok.unwish,I.os,I.bare,I.base,I.loc,I.cell,I.free,I.freeC,I.pin,I.hok,I.len⟩
theorem SP.unwish {D:Ends} {f:Flow} {s':Shared} (h:SP (X.wish E) pins D f s'):SP X pins D f s':=by
  cases f with
  | next=>obtain ⟨σ',H',I,q⟩:=h; exact ⟨σ',H',I.unwish,q⟩
  | brk=>obtain ⟨σ',H',I,q⟩:=h; exact ⟨σ',H',I.unwish,q⟩
  | cont=>obtain ⟨σ',H',I,q⟩:=h; exact ⟨σ',H',I.unwish,q⟩
  | ret u=>obtain ⟨v,σ',H',I,r,q⟩:=h; exact ⟨v,σ',H',I.unwish,r,q⟩
theorem PSs.nox {st:List Stmt} {t:TS} (h:PSs X.nox st t):PSs X st t:=fun pins s σ H D I hw =>
  wpAny_mono (h pins s σ H D (I.wish _) hw) (fun _ _ q=>q.unwish) fun _ _ z=>False.elim z
end
section
variable {X:Cx} {st:Stmt} {rest:List Stmt} {t u:TS} {e:Expr} {te:TE} {pos:Pos}
def tNext : TS := fun D σ H => D.nx σ H
def tSeq (t u:TS):TS:=fun D σ H=>t { D with nx:=u D } σ H
theorem pss_nil:PSs X [] tNext:=fun _ _ σ H _ I h=>wpAny_execs_nil ⟨σ,H,I,h⟩
theorem pss_cons (h1:PS X st t) (h2:PSs X rest u):PSs X (st :: rest) (tSeq t u):=by
  intro pins s σ H D I h
  refine wpAny_execs_cons (thn (h1 pins s σ H { D with nx:=u D } I h) fun f s1 q=>?_)
  cases f with
  | next =>
    obtain ⟨σ', H', I', q⟩ := q
    exact h2 pins s1 σ' H' D I' q
  | ret v => exact q
  | brk => exact q
  | cont => exact q
theorem pss_one (h1 : PS X st t) : PSs X [st] t := by
  intro pins s σ H D I h
  refine wpAny_execs_cons (thn (h1 pins s σ H D I h) fun f s1 q=>?_)
  cases f with
  | next => exact wpAny_execs_nil q
  | ret v => exact q
  | brk => exact q
  | cont => exact q
theorem Inv.quiet {pins:List (Addr × Obj)} {σ:St} {H:Hp} {s:Shared} (I:Inv X pins σ H s):interactive X.env = false:=by simp [interactive,I.ok.kind]
def tDrop (te:TE):TS:=fun D σ H=>te σ H fun _ H1=>D.nx σ H1
theorem ps_expr (he:PE X e te) (hs:swapsWith e none pos.line X.env = pure false:=by rfl):PS X (.Expr e pos) (tDrop te):=by
  intro pins s σ H D I h
  exact wpAny_Expr_any (thn (he pins s σ H _ I h) fun v s1 ⟨x,H1,I1,r1,q1⟩=>⟨σ,H1,I1,q1⟩) I.quiet hs
def tRet (te : TE) : TS := fun D σ H => te σ H D.rt
theorem ps_ret (he:PE X e te):PS X (.Return (some e) pos) (tRet te):=by
  intro pins s σ H D I h
  exact wpAny_Return_some (thn (he pins s σ H _ I h) fun v s1 ⟨x,H1,I1,r1,q1⟩=>⟨x,σ,H1,I1,r1,q1⟩)
def tIfS (c:TT) (t u:TS):TS:=fun D σ H=>c σ H fun b H1=>if b = true then t D σ H1 else u D σ H1
theorem ps_if {c:Expr} {a b:List Stmt} {tc:TT} (hc:PT X c tc) (ha:PSs X a t) (hb:PSs X b u):PS X (.If c a b pos) (tIfS tc t u):=by
  intro pins s σ H D I h
  refine wpAny_If (thn (hc pins s σ H _ I h) fun d s1 ⟨H1,I1,q1⟩=>?_)
  cases d with
  | true => exact ha pins s1 σ H1 D I1 q1
  | false => exact hb pins s1 σ H1 D I1 q1
def tNever : TS := fun _ _ _ => False
theorem ps_never:PS X st tNever:=fun _ _ _ _ _ _ h=>h.elim
end
abbrev TG := V → St → Hp → (St → Hp → Prop) → Prop
abbrev TGs := List V → St → Hp → (St → Hp → Prop) → Prop
def PG (X : Cx) (target : Expr) (t : TG) : Prop :=
  ∀ (pins:List (Addr × Obj)) (s:Shared) (σ:St) (H:Hp) (v:V) (u:Value) (Q:St→Hp→Prop),Inv X pins σ H s→RelV v u→t v σ H Q →
    wpAny (model X.prog X.w) X.A (assign target X.env u) (fun _ s'=>∃ σ' H',Inv X pins σ' H' s'∧Q σ' H') X.xe s
def PGs (X : Cx) (ts : List Expr) (t : TGs) : Prop :=
  ∀ (pins:List (Addr × Obj)) (s:Shared) (σ:St) (H:Hp) (vs:List V) (us:List Value) (Q:St→Hp→Prop),Inv X pins σ H s→Vals vs us→t vs σ H Q →
    wpAny (model X.prog X.w) X.A (assignInOrder ((assignEach ts X.env).map (·.2)) us) (fun _ s'=>∃ σ' H',Inv X pins σ' H' s'∧Q σ' H') X.xe s
section
variable {X : Cx} {pos : Pos}
def gName (i:Nat):TG:=fun v σ H Q=>Q (σ.set i (some v)) H
theorem pg_name {i:Nat} {x:Str} (hN:X.N.Nodup) (hi:X.N[i]? = some x) (hx:Loc X.env.scope x) (hf:X.fn x = true ∨ X.env.scope.names.lookup x = some .local:=by first | exact .inl rfl | exact .inr rfl | assumption):PG X (.Name x pos) (gName i):=by
  intro pins s σ H v u Q I r h
  exact wpAny_assign_Name (store_ok I hN hi hx r (fun s' I'=>⟨_,H,I',h⟩) hf)
def gNil : TGs := fun vs σ H Q => vs = [] ∧ Q σ H
def gCons (t:TG) (u:TGs):TGs:=fun vs σ H Q=>∃ v r,vs = v :: r∧t v σ H fun σ' H'=>u r σ' H' Q
theorem pgs_nil : PGs X [] gNil := by
  intro pins s σ H vs us Q I r h
  obtain ⟨e, h⟩ := h
  subst e
  cases r
  exact assignInOrder_nil ⟨σ, H, I, h⟩
theorem pgs_cons {e:Expr} {es:List Expr} {t:TG} {u:TGs} (h1:PG X e t) (h2:PGs X es u)
    (hs:(assignEach (e :: es) X.env).map (·.2) = assign e X.env :: (assignEach es X.env).map (·.2):=by rfl):PGs X (e :: es) (gCons t u):=by
  intro pins s σ H vs us Q I r h
  obtain ⟨v, vr, e1, h⟩ := h
  subst e1
  cases r with
  | cons r rr =>
    rw [hs]
    refine assignInOrder_cons (thn (h1 pins s σ H _ _ _ I r h) fun _ s1 ⟨σ1,H1,I1,q1⟩=>?_)
    exact h2 pins s1 σ1 H1 _ _ Q I1 rr q1
def gTup (K:PySem.W.Frag) (n:Nat) (t:TGs):TG:=fun v σ H Q=>∃ a xs,v = .ref a∧SqT K H a xs∧xs.length = n∧t xs σ H Q
theorem pg_tup {es:List Expr} {k:Nat} {t:TGs} {n:Nat} (hc:X.calm = true) (h:PGs X es t)
    (hn:(assignEach es X.env).length = n:=by rfl) (hst:(assignEach es X.env).findIdx? (·.1) = none:=by rfl):PG X (.Tuple es k pos) (gTup X.K n t):=by
  intro pins s σ H v u Q I r hw
  obtain ⟨a, xs, e1, hq, hl, hw⟩ := hw
  subst e1
  cases r
  obtain ⟨its, rv, ht, hz⟩ := I.tuple hq
  refine assign_Tuple_tuple (I.ok.hd hc) ht (by simp [hn,← hl,rv.length]) hst fun h' hx=>?_
  have I1:Inv X pins σ H { s with heap:=h' }:=I.kept (t':=s.toks) fun b o e=>hx b o (Nat.ne_of_lt (Heap.lt_size e)) e
  exact h pins _ σ H xs _ Q I1 (by simpa using rv) hw
def tAsg (te:TE) (g:TG):TS:=fun D σ H=>te σ H fun x H1=>g x σ H1 D.nx
theorem ps_asg {tg e:Expr} {te:TE} {g:TG} (he:PE X e te) (hg:PG X tg g) (hs:swapsWithSole [tg] e pos.line X.env = pure false:=by rfl) (hw:swappedStores [tg] e X.env = pure none:=by rfl)
    (h1:(assignEach [tg] X.env).map (·.2) = [assign tg X.env]:=by rfl):PS X (.Assign [tg] e pos) (tAsg te g):=by
  intro pins s σ H D I h
  refine wpAny_Assign_stores (thn (he pins s σ H _ I h) fun v s1 ⟨x,H1,I1,r1,q1⟩=>?_) hs hw
  rw [h1]
  exact thn (hg pins s1 σ H1 x v _ I1 r1 q1) fun _ s2 q => q
theorem ps_set {i:Nat} {x:Str} {e:Expr} {te:TE} {pos':Pos} (hN:X.N.Nodup) (hi:X.N[i]? = some x) (hx:Loc X.env.scope x) (he:PE X e te) (hs:swapsWith e (some (.Name x pos')) pos.line X.env = pure false:=by rfl) (hf:X.fn x = true ∨ X.env.scope.names.lookup x = some .local:=by first | exact .inl rfl | exact .inr rfl | assumption) :
    PS X (.Assign [.Name x pos'] e pos) (tAsg te (gName i)):=by
  intro pins s σ H D I h
  refine wpAny_Assign_Name (thn (he pins s σ H _ I h) fun v s1 ⟨y,H1,I1,r1,q1⟩=>?_) hs
  exact store_ok I1 hN hi hx r1 (fun s2 I2=>⟨_,H1,I2,q1⟩) hf
end
section
variable {X : Cx} {pos : Pos}
end
structure It where
  go : Nat → Hp → Prop
  yld : Nat → Hp → V → Hp → Prop
  stop : Nat → Hp → Prop
def FpOk (X:Cx) (pins:List (Addr × Obj)) (H:Hp) (b:Addr):Prop :=
  H b = none∧b ≠ X.env.locals∧b ∉ X.fs∧(b ∈ X.ex ∨ X.s₀.heap.objs.size ≤ b)∧(∀ x c,X.env.cells.lookup x = some c→c ≠ b)∧∀ p ∈ X.pn ++ pins,p.1 ≠ b
theorem Inv.fpOk {X:Cx} {pins:List (Addr × Obj)} {σ:St} {H H':Hp} {s:Shared} {b:Addr} (I:Inv X pins σ H s) (hb:s.heap.objs.size ≤ b) (hn:H' b = none):FpOk X pins H' b:=by
  refine ⟨hn,Nat.ne_of_gt (Nat.lt_of_lt_of_le I.lt hb),I.nofs hb,.inr (Nat.le_trans I.sz hb),fun x c e z=>?_,fun p hp z=>?_⟩
  · obtain ⟨v, q⟩ := I.cell x c e
    exact absurd (Nat.lt_of_lt_of_le q.lt (by rw [z]; exact hb)) (Nat.lt_irrefl _)
  · exact absurd (Nat.lt_of_lt_of_le (Heap.lt_size (I.pin p hp).1) (by rw [z]; exact hb)) (Nat.lt_irrefl _)
structure Turn (P:Program) (w:World) (K:PySem.W.Frag) (tg:Expr) (J:It) (fp:List Addr) (it:Addr) (tn:Nat→Heap→Prop):Prop where
  mem : it ∈ fp
  obj:∀ i h,tn i h→∀ b ∈ fp,∃ o,h.get? b = some o∧∀ v,o.data ≠ .cell v
  keep:∀ i h h',tn i h→(∀ b ∈ fp,∀ o,h.get? b = some o→h'.get? b = some o)→tn i h'
  item:∀ (X:Cx),X.prog = P→X.w = w→X.K = K→X.calm = true→∀ (i:Nat) (pins:List (Addr × Obj)) (s:Shared) (σ:St) (H:Hp) (E:Value→Shared→Prop),Inv X pins σ H s→(∀ b ∈ fp,FpOk X pins H b)→tn i s.heap→J.go i H →
    wpAny (model P w) X.A (pyNext (.ref it)) (fun r s1=>∃ u,r = some u ∧
      wpAny (model P w) X.A (letOwnedTupleGo tg (.ref it) u) (fun _ s2=>∃ x H',Inv X pins σ H' s2∧RelV x u∧J.yld i H x H'∧tn (i + 1) s2.heap∧∀ b ∈ fp,H' b = none) E s1) E s
  done:∀ (X:Cx),X.prog = P→X.w = w→X.K = K→X.calm = true→∀ (i:Nat) (pins:List (Addr × Obj)) (s:Shared) (σ:St) (H:Hp) (E:Value→Shared→Prop),Inv X pins σ H s→(∀ b ∈ fp,FpOk X pins H b)→tn i s.heap→J.stop i H →
    wpAny (model P w) X.A (pyNext (.ref it)) (fun r s1=>r = none∧Inv X pins σ H s1) E s
  self:∀ (A:Around) (i:Nat) (s:Shared) (Q:Value→Shared→Prop) (E:Value→Shared→Prop),tn i s.heap→Q (.ref it) s→wpAny (model P w) A (pyIter (.ref it)) Q E s
abbrev TI := St → Hp → (It → Hp → Prop) → Prop
def PIE (X:Cx) (pins:List (Addr × Obj)) (σ:St) (tg:Expr) (R:It→Hp→Prop) (itv:Value) (s2:Shared):Prop :=
  ∃ (it:Addr) (fp:List Addr) (tn:Nat→Heap→Prop) (J:It) (H':Hp),itv = .ref it∧Inv X pins σ H' s2∧Turn X.prog X.w X.K tg J fp it tn∧tn 0 s2.heap∧(∀ b ∈ fp,FpOk X pins H' b)∧R J H'
def PI (X : Cx) (tg iter : Expr) (wi : TI) : Prop :=
  ∀ (pins:List (Addr × Obj)) (s:Shared) (σ:St) (H:Hp) (R:It→Hp→Prop),Inv X pins σ H s→wi σ H R →
    wpAny (model X.prog X.w) X.A (eval iter X.env) (fun v s1=>wpAny (model X.prog X.w) X.A (pyIter v) (PIE X pins σ tg R) X.xe s1) X.xe s
theorem go_of {M:Model} {A:Around} {E:Value→Shared→Prop} {s:Shared} {tg:Expr} {it:Addr} {u:Value} {o:Obj} {n:String} {vs:Array Value} {Q:Unit→Shared→Prop} (ho:s.heap.get? it = some o) (hc:o.cls = .type n) (hd:o.data = .fields vs)
    (hn:["enumerate","zip","dict_itemiterator","dict_reverseitemiterator","odict_iterator","itertools.zip_longest","itertools.pairwise"].contains n = false) (hQ:Q () s):wpAny M A (letOwnedTupleGo tg (.ref it) u) Q E s:=by
  unfold letOwnedTupleGo
  cases tg <;> first
    | exact wpAny_pure hQ
    | (cases u <;> first
        | exact wpAny_pure hQ
        | (refine wpAny_bind (wpAny_load ho ?_)
           rw [hc, hd]
           show wpAny M A (if (["enumerate","zip","dict_itemiterator","dict_reverseitemiterator","odict_iterator","itertools.zip_longest","itertools.pairwise"].contains n && vs[0]? == some (rawInt _)) = true then _ else _) Q E s
           rw [if_neg (by intro h; rw [hn,Bool.false_and] at h; cases h)]
           exact wpAny_pure hQ))
def Itl (K : PySem.W.Frag) (a : Addr) : It :=
  ⟨fun i H=>∃ xs x,SqL K H a xs∧xs[i]? = some x,fun i H x H'=>H' = H∧∀ xs,SqL K H a xs→xs[i]? = some x,fun i H=>∃ xs,SqL K H a xs∧xs.length ≤ i⟩
def Itt (K : PySem.W.Frag) (a : Addr) : It :=
  ⟨fun i H=>∃ xs x,SqT K H a xs∧xs[i]? = some x,fun i H x H'=>H' = H∧∀ xs,SqT K H a xs→xs[i]? = some x,fun i H=>∃ xs,SqT K H a xs∧xs.length ≤ i⟩
def Itr (lo:Int) (n:Nat):It:=⟨fun i _=>i < n,fun i H x H'=>H' = H∧x = .int (lo + i),fun i _=>n ≤ i⟩
theorem turn_list {P:Program} {w:World} {K:PySem.W.Frag} {tg:Expr} (a it:Addr):Turn P w K tg (Itl K a) [it] it (fun i h=>h.IsListIter it a i) where
  mem := by simp
  obj := fun i h st b hb => by
    have e : b = it := by simpa using hb
    subst e
    obtain ⟨o, e, c, d⟩ := st
    exact ⟨o, e, fun v z => by rw [d] at z; cases z⟩
  keep:=fun i h h' st k=>st.at fun o e=>k it (by simp) o e
  item := by
    intro X hP hw hK hc i pins s σ H E I hf st hg
    subst hP hw hK
    obtain ⟨xs, x, hq, hx⟩ := hg
    obtain ⟨its, rv, p, hz⟩ := I.list hq
    obtain ⟨u, hu, ru⟩ := rv.get hx
    obtain ⟨f0, f1, f2, f3, f4, f5⟩ := hf it (by simp)
    refine wpAny_pyNext_list_item st p.isList (x:=u) (by simpa using hu) fun h' st' sb=>?_
    have I1:Inv X pins σ H { s with heap:=h' }:=I.turned (t':=s.toks) (fun b o hb e=>(sb.2 b hb).trans e) f0 f1 f3 f4 f5
    obtain ⟨o, e, c, d⟩ := id st'
    exact ⟨u,rfl,go_of (s:={ s with heap:=h' }) e c d (by decide) ⟨x,H,I1,ru,⟨rfl,fun ys hy=>by rw [I.list_inj hy hq]; exact hx⟩,st',fun b hb=>(hf b hb).1⟩⟩
  done := by
    intro X hP hw hK hc i pins s σ H E I hf st hg
    subst hP hw hK
    obtain ⟨xs, hq, hx⟩ := hg
    obtain ⟨its, rv, p, hz⟩ := I.list hq
    obtain ⟨f0, f1, f2, f3, f4, f5⟩ := hf it (by simp)
    have hl := rv.length
    exact wpAny_pyNext_list_end (I.ok.hd hc) st p.isList (by simp; omega) fun h' eb=>⟨rfl,I.turned (t':=s.toks) (fun b o hb e=>eb b o hb e) f0 f1 f3 f4 f5⟩
  self := fun _ _ _ _ _ st h => wpAny_pyIter_listiter st h
theorem turn_tuple {P:Program} {w:World} {K:PySem.W.Frag} {tg:Expr} (a it:Addr):Turn P w K tg (Itt K a) [it] it (fun i h=>h.IsTupleIter it a i) where
  mem := by simp
  obj := fun i h st b hb => by
    have e : b = it := by simpa using hb
    subst e
    obtain ⟨o, e, c, d⟩ := st
    exact ⟨o, e, fun v z => by rw [d] at z; cases z⟩
  keep:=fun i h h' st k=>st.at fun o e=>k it (by simp) o e
  item := by
    intro X hP hw hK hc i pins s σ H E I hf st hg
    subst hP hw hK
    obtain ⟨xs, x, hq, hx⟩ := hg
    obtain ⟨its, rv, p, hz⟩ := I.tuple hq
    obtain ⟨u, hu, ru⟩ := rv.get hx
    obtain ⟨f0, f1, f2, f3, f4, f5⟩ := hf it (by simp)
    refine wpAny_pyNext_tuple_item st (show s.heap.IsTuple a its.toArray from p) (x:=u) (by simpa using hu) fun h' st' sb=>?_
    have I1:Inv X pins σ H { s with heap:=h' }:=I.turned (t':=s.toks) (fun b o hb e=>(sb.2 b hb).trans e) f0 f1 f3 f4 f5
    obtain ⟨o, e, c, d⟩ := id st'
    exact ⟨u,rfl,go_of (s:={ s with heap:=h' }) e c d (by decide) ⟨x,H,I1,ru,⟨rfl,fun ys hy=>by rw [I.tuple_inj hy hq]; exact hx⟩,st',fun b hb=>(hf b hb).1⟩⟩
  done := by
    intro X hP hw hK hc i pins s σ H E I hf st hg
    subst hP hw hK
    obtain ⟨xs, hq, hx⟩ := hg
    obtain ⟨its, rv, p, hz⟩ := I.tuple hq
    obtain ⟨f0, f1, f2, f3, f4, f5⟩ := hf it (by simp)
    have hl := rv.length
    exact wpAny_pyNext_tuple_end (I.ok.hd hc) st (show s.heap.IsTuple a its.toArray from p) (by simp; omega) fun h' eb=>⟨rfl,I.turned (t':=s.toks) (fun b o hb e=>eb b o hb e) f0 f1 f3 f4 f5⟩
  self := fun _ _ _ _ _ st h => wpAny_pyIter_tupleiter st h
theorem turn_range {P:Program} {w:World} {K:PySem.W.Frag} {tg:Expr} (it:Addr) (lo:Int) (n:Nat):Turn P w K tg (Itr lo n) [it] it (fun i h=>IsRangeIter h it (lo + (i:Nat) * 1) ((n:Int) - (i:Nat)) 1) where
  mem := by simp
  obj := fun i h st b hb => by
    have e : b = it := by simpa using hb
    subst e
    exact ⟨_, st, fun v z => by
      have z' : Data.fields _ = Data.cell v := z
      cases z'⟩
  keep := fun i h h' st k => k it (by simp) _ st
  item := by
    intro X hP hw hK hc i pins s σ H E I hf st hg
    subst hP hw hK
    obtain ⟨f0, f1, f2, f3, f4, f5⟩ := hf it (by simp)
    have W:=Walks.range (prog:=X.prog) (w:=X.w) (I.ok.hd hc) it lo 1 n
    refine W.item i s _ _ hg st fun v h' tk hv st' kk => ?_
    obtain ⟨t, rfl⟩ := hv
    have I1:Inv X pins σ H { s with heap:=h',toks:=tk }:=I.turned (fun b o hb e=>kk b o (by simpa using hb) e) f0 f1 f3 f4 f5
    refine ⟨_,rfl,go_of (s:={ s with heap:=h',toks:=tk }) (n:="range_iterator") st' rfl rfl (by decide) ⟨.int (lo + i),H,I1,⟨t,?_⟩,⟨rfl,rfl⟩,st',fun b hb=>(hf b hb).1⟩⟩
    rw [Int.mul_one]
  done := by
    intro X hP hw hK hc i pins s σ H E I hf st hg
    subst hP hw hK
    obtain ⟨f0, f1, f2, f3, f4, f5⟩ := hf it (by simp)
    exact wpAny_pyNext_range_end (I.ok.hd hc) st (by have:n ≤ i:=hg; omega) fun h' eb=>⟨rfl,I.turned (t':=s.toks) (fun b o hb e=>eb b o hb e) f0 f1 f3 f4 f5⟩
  self := fun _ _ _ _ _ st h => wpAny_pyIter_rangeiter st h
end L2
namespace L2
open PySem PySem.Spec PyProof.Rows
section
variable {X : Cx} {tg : Expr}
def iList (K:PySem.W.Frag) (tl:TE):TI:=fun σ H R=>tl σ H fun x H1=>∃ a,x = .ref a∧(∃ xs,SqL K H1 a xs)∧R (Itl K a) H1
def iTup (K:PySem.W.Frag) (tl:TE):TI:=fun σ H R=>tl σ H fun x H1=>∃ a,x = .ref a∧(∃ xs,SqT K H1 a xs)∧R (Itt K a) H1
theorem pi_list {l:Expr} {tl:TE} (hl:PE X l tl):PI X tg l (iList X.K tl):=by
  intro pins s σ H R I h
  refine thn (hl pins s σ H _ I h) fun v s1 ⟨x,H1,I1,r1,q1⟩=>?_
  obtain ⟨a, e, ⟨xs, hq⟩, q⟩ := q1
  subst e
  cases r1
  obtain ⟨its, rv, p, hz⟩ := I1.list hq
  refine wpAny_pyIter_list p.isList ?_
  refine ⟨s1.heap.objs.size,[s1.heap.objs.size],_,_,H1,rfl,I1.kept (t':=s1.toks) fun b o e=>Heap.get?_push_of_some _ e,turn_list a _,⟨_,Heap.get?_push_size _ rfl,rfl,rfl⟩,fun b hb=>?_,q⟩
  have e : b = s1.heap.objs.size := by simpa using hb
  subst e
  exact I1.fpOk (Nat.le_refl _) (I1.hok.fresh (Nat.le_refl _))
theorem pi_tup {l:Expr} {tl:TE} (hl:PE X l tl):PI X tg l (iTup X.K tl):=by
  intro pins s σ H R I h
  refine thn (hl pins s σ H _ I h) fun v s1 ⟨x,H1,I1,r1,q1⟩=>?_
  obtain ⟨a, e, ⟨xs, hq⟩, q⟩ := q1
  subst e
  cases r1
  obtain ⟨its, rv, p, hz⟩ := I1.tuple hq
  refine wpAny_pyIter_tuple (show s1.heap.IsTuple a its.toArray from p) ?_
  refine ⟨s1.heap.objs.size,[s1.heap.objs.size],_,_,H1,rfl,I1.kept (t':=s1.toks) fun b o e=>Heap.get?_push_of_some _ e,turn_tuple a _,⟨_,Heap.get?_push_size _ rfl,rfl,rfl⟩,fun b hb=>?_,q⟩
  have e : b = s1.heap.objs.size := by simpa using hb
  subst e
  exact I1.fpOk (Nat.le_refl _) (I1.hok.fresh (Nat.le_refl _))
theorem range_it {pins:List (Addr × Obj)} {σ:St} {H:Hp} {s:Shared} {R:It→Hp→Prop} {E:Value→Shared→Prop} {lo hi:Int} {t u v:Tok} {tk:Nat} (I:Inv X pins σ H s) (h1:-(2 ^ 62) ≤ lo) (h2:lo < 2 ^ 62) (h3:-(2 ^ 62) ≤ hi) (h4:hi < 2 ^ 62)
    (q:R (Itr lo (hi - lo).toNat) H):wpAny (model X.prog X.w) X.A (pyIter (.ref s.heap.objs.size)) (PIE X pins σ tg R) E { s with heap:=s.heap.push { cls:=.type "range",data:=.fields #[.int lo t,.int hi u,.int 1 v] },toks:=tk }:=by
  refine wpAny_pyIter_range (IsRange.new ..) (small_one h1 h2 h3 h4) ?_
  have I1:Inv X pins σ H { s with heap:=s.heap.push { cls:=.type "range",data:=.fields #[.int lo t,.int hi u,.int 1 v] },toks:=tk }:=I.kept fun b o e=>Heap.get?_push_of_some _ e
  refine ⟨(s.heap.push { cls:=.type "range",data:=.fields #[.int lo t,.int hi u,.int 1 v] }).objs.size,[(s.heap.push { cls:=.type "range",data:=.fields #[.int lo t,.int hi u,.int 1 v] }).objs.size],_,_,H,rfl,
    I1.kept (t':=tk) fun b o e=>Heap.get?_push_of_some _ e,turn_range _ lo (hi - lo).toNat,?_,fun b hb=>?_,q⟩
  · have e1 : lo + ((0 : Nat) : Int) * 1 = lo := by simp
    have e2:(((hi - lo).toNat:Nat):Int) - ((0:Nat):Int) = Builtin.Range.rangeSize lo hi 1:=by rw [rangeSize_one]; split <;> omega
    show IsRangeIter _ _ (lo + ((0:Nat):Int) * 1) ((((hi - lo).toNat:Nat):Int) - ((0:Nat):Int)) 1
    rw [e1, e2]
    exact Heap.get?_push_size _ rfl
  · have e:b = (s.heap.push { cls:=.type "range",data:=.fields #[.int lo t,.int hi u,.int 1 v] }).objs.size:=by simpa using hb
    subst e
    exact I1.fpOk (Nat.le_refl _) (I1.hok.fresh (Nat.le_refl _))
def iRng1 (ta:TA):TI:=fun σ H R=>ta σ H fun vs H1=>∃ j:Int,vs = [.int j]∧-(2 ^ 62) ≤ j∧j < 2 ^ 62∧R (Itr 0 j.toNat) H1
theorem pi_range1 {a:Expr} {ta:TA} {p pos:Pos} (hg:Gl X "range") (hm:X.mg "range" = none) (ha:PA X [a] ta) (hs:starEach [a] X.env = [(false,eval a X.env)]:=by rfl):PI X tg (.Call (.Name "range" p) [a] [] pos) (iRng1 ta):=by
  intro pins s σ H R I h
  refine Call_ (ld_blt I hg hm boot_range (PyProof.Rows.callWith_type1 (thn (ha pos pins s σ H _ I h) fun us s1 ⟨vs,H1,I1,r1,q1⟩=>?_) hs rfl))
  obtain ⟨j, e, q1, q2, q⟩ := q1
  subst e
  cases r1 with
  | cons r rr =>
    cases rr
    obtain ⟨t, rfl⟩ := r
    exact call_range_1 (range_it I1 (by omega) (by omega) q1 q2 (by simpa using q))
def tFor (wi:TI) (g:TG) (tb:TS):TS:=fun D σ H=>wi σ H fun J H1=>∃ W:Nat→Nat→St→Hp→Prop,(∃ m,W 0 m σ H1)∧∀ i m σ H,W i m σ H →
  (J.stop i H∧D.nx σ H) ∨ (J.go i H∧∃ N:St→Hp→Prop,(∀ σ' H',N σ' H'→∃ m',m' < m∧W (i + 1) m' σ' H')∧∀ x H',J.yld i H x H'→g x σ H' fun σ2 H2=>tb { D with nx:=N,ct:=N,bk:=D.nx } σ2 H2)
def pinsAt (fp:List Addr) (h:Heap):List (Addr × Obj):=fp.filterMap fun b=>(h.get? b).map fun o=>(b,o)
theorem mem_pinsAt {fp:List Addr} {h:Heap} {b:Addr} {o:Obj} (hb:b ∈ fp) (e:h.get? b = some o):(b,o) ∈ pinsAt fp h:=List.mem_filterMap.mpr ⟨b,hb,by rw [e]; rfl⟩
theorem of_pinsAt {fp:List Addr} {h:Heap} {p:Addr × Obj} (hp:p ∈ pinsAt fp h):p.1 ∈ fp∧h.get? p.1 = some p.2:=by
  obtain ⟨b, hb, e⟩ := List.mem_filterMap.mp hp
  cases q : h.get? b with
  | none => rw [q] at e; cases e
  | some o =>
    rw [q] at e
    have e' : (b, o) = p := Option.some.inj e
    subst e'
    exact ⟨hb, q⟩
theorem Inv.pinned {pins:List (Addr × Obj)} {σ:St} {H:Hp} {s:Shared} {fp:List Addr} (I:Inv X pins σ H s) (hf:∀ b ∈ fp,FpOk X pins H b) (ho:∀ b ∈ fp,∃ o,s.heap.get? b = some o∧∀ v,o.data ≠ .cell v):Inv X (pins ++ pinsAt fp s.heap) σ H s :=
  I.pins_of fun p hp=>(List.mem_append.mp hp).elim (fun z=>I.pin p (List.mem_append_right _ z)) fun z=>by
    obtain ⟨hb, e⟩ := of_pinsAt z
    obtain ⟨f0, f1, f2, _⟩ := hf p.1 hb
    obtain ⟨o, e', d⟩ := ho p.1 hb
    rw [e] at e'; cases e'
    exact ⟨e, f0, f1, f2, d⟩
theorem Inv.unpinned {pins pl:List (Addr × Obj)} {σ:St} {H:Hp} {s:Shared} (I:Inv X (pins ++ pl) σ H s):Inv X pins σ H s:=I.pins_of fun p hp=>I.pin p (List.mem_append_right _ (List.mem_append_left _ hp))
theorem ps_for {iter:Expr} {body:List Stmt} {wi:TI} {g:TG} {tb:TS} {pos:Pos} (hp:PassesOwn (model X.prog X.w) X.A X.env X.xe) (hc:X.calm = true) (hi:PI X tg iter wi) (hg:PG X tg g) (hb:PSs X body tb)
    (hs:∀ x,foldedSetIterable iter X.env x = pure x:=by intro _; rfl):PS X (.For tg iter body [] pos) (tFor wi g tb):=by
  intro pins s σ H D I h
  refine wpAny_For (thn (hi pins s σ H _ I h) fun v s1 h1=>thn h1 fun itv s2 h2=>?_) hs
  obtain ⟨it,fp,tn,J,H2,e,I2,T,st2,f2,W,⟨m0,w0⟩,turn⟩:=h2
  subst e
  have stat:∀ {H':Hp},(∀ b ∈ fp,H' b = none)→∀ b ∈ fp,FpOk X pins H' b:=fun hn b hb=>⟨hn b hb,(f2 b hb).2⟩
  refine codeAny_forLoop_any (fun n s'=>∃ i σ' H',Inv X pins σ' H' s'∧tn i s'.heap∧(∀ b ∈ fp,H' b = none)∧W i n σ' H') ?_ m0 ⟨0,σ,H2,I2,st2,fun b hb=>(f2 b hb).1,w0⟩
  rintro n s3 ⟨i, σ3, H3, I3, st3, fr3, w3⟩
  rcases turn i n σ3 H3 w3 with ⟨stop,qn⟩ | ⟨go,N,hN,step⟩
  · refine wpAny_passesOwn hp (thn (T.done X rfl rfl rfl hc i pins s3 σ3 H3 X.xe I3 (stat fr3) st3 stop) fun r s4 ⟨hr,I4⟩=>?_)
    subst hr
    exact wpAny_execs_nil ⟨σ3, H3, I4, qn⟩
  · refine wpAny_passesOwn hp (thn (T.item X rfl rfl rfl hc i pins s3 σ3 H3 X.xe I3 (stat fr3) st3 go) fun r s4 ⟨u,hr,h4⟩=>?_)
    subst hr
    refine wpAny_passesOwn hp (thn h4 fun _ s5 ⟨x,H5,I5,r5,y5,st5,fr5⟩=>?_)
    have I5' := I5.pinned (stat fr5) (T.obj _ _ st5)
    refine wpAny_passesOwn hp (thn (hg _ s5 σ3 H5 x u _ I5' r5 (step x H5 y5)) fun _ s6 ⟨σ6,H6,I6,q6⟩=>?_)
    refine wpAny_passesOwn hp (thn (hb _ s6 σ6 H6 _ I6 q6) fun f s7 q7=>?_)
    have again:∀ {σ7:St} {H7:Hp},Inv X (pins ++ pinsAt fp s5.heap) σ7 H7 s7→N σ7 H7→∃ m,m < n∧∃ i σ' H',Inv X pins σ' H' s7∧tn i s7.heap∧(∀ b ∈ fp,H' b = none)∧W i m σ' H':=fun {σ7 H7} I7 n7=>by
      obtain ⟨m', hm, w7⟩ := hN σ7 H7 n7
      refine ⟨m',hm,i + 1,σ7,H7,I7.unpinned,T.keep _ _ _ st5 fun b hb o e=>(I7.pin (b,o) (List.mem_append_right _ (List.mem_append_right _ (mem_pinsAt hb e)))).1,fun b hb=>?_,w7⟩
      obtain ⟨o, e, d⟩ := T.obj _ _ st5 b hb
      exact (I7.pin (b,o) (List.mem_append_right _ (List.mem_append_right _ (mem_pinsAt hb e)))).2.1
    cases f with
    | next=>obtain ⟨σ7,H7,I7,n7⟩:=q7; exact again I7 n7
    | cont=>obtain ⟨σ7,H7,I7,n7⟩:=q7; exact again I7 n7
    | brk=>obtain ⟨σ7,H7,I7,q7⟩:=q7; exact ⟨σ7,H7,I7.unpinned,q7⟩
    | ret v=>obtain ⟨x7,σ7,H7,I7,r7,q7⟩:=q7; exact ⟨x7,σ7,H7,I7.unpinned,r7,q7⟩
end
theorem for_list {K:PySem.W.Frag} {a:Addr} {xs:List V} {g:TG} {tb:TS} {D:Ends} {σ:St} {H:Hp} (Pv:Nat→St→Hp→Prop) (h0:Pv 0 σ H) (hl:∀ i σ H,i ≤ xs.length→Pv i σ H→SqL K H a xs)
    (hs:∀ i x σ H,xs[i]? = some x→Pv i σ H→g x σ H fun σ2 H2=>tb { D with nx:=Pv (i + 1),ct:=Pv (i + 1),bk:=D.nx } σ2 H2) (hd:∀ σ H,Pv xs.length σ H→D.nx σ H) :
    ∃ W:Nat→Nat→St→Hp→Prop,(∃ m,W 0 m σ H)∧∀ i m σ H,W i m σ H →
      ((Itl K a).stop i H∧D.nx σ H) ∨ ((Itl K a).go i H∧∃ N:St→Hp→Prop,(∀ σ' H',N σ' H'→∃ m',m' < m∧W (i + 1) m' σ' H')∧∀ x H',(Itl K a).yld i H x H'→g x σ H' fun σ2 H2=>tb { D with nx:=N,ct:=N,bk:=D.nx } σ2 H2):=by
  refine ⟨fun i m σ H=>m = xs.length - i∧i ≤ xs.length∧Pv i σ H,⟨xs.length,by simp,Nat.zero_le _,h0⟩,?_⟩
  rintro i m σ H ⟨rfl, hi, p⟩
  have q := hl i σ H hi p
  by_cases hlt : i < xs.length
  · refine .inr ⟨⟨xs,xs[i],q,by simp [hlt]⟩,Pv (i + 1),fun σ' H' p'=>⟨xs.length - (i + 1),by omega,rfl,hlt,p'⟩,fun x H' y=>?_⟩
    obtain ⟨e, y⟩ := y
    subst e
    exact hs i x σ _ (y xs q) p
  · have e : i = xs.length := by omega
    subst e
    exact .inl ⟨⟨xs, q, Nat.le_refl _⟩, hd σ H p⟩
theorem for_tup {K:PySem.W.Frag} {a:Addr} {xs:List V} {g:TG} {tb:TS} {D:Ends} {σ:St} {H:Hp} (Pv:Nat→St→Hp→Prop) (h0:Pv 0 σ H) (hl:∀ i σ H,i ≤ xs.length→Pv i σ H→SqT K H a xs)
    (hs:∀ i x σ H,xs[i]? = some x→Pv i σ H→g x σ H fun σ2 H2=>tb { D with nx:=Pv (i + 1),ct:=Pv (i + 1),bk:=D.nx } σ2 H2) (hd:∀ σ H,Pv xs.length σ H→D.nx σ H) :
    ∃ W:Nat→Nat→St→Hp→Prop,(∃ m,W 0 m σ H)∧∀ i m σ H,W i m σ H →
      ((Itt K a).stop i H∧D.nx σ H) ∨ ((Itt K a).go i H∧∃ N:St→Hp→Prop,(∀ σ' H',N σ' H'→∃ m',m' < m∧W (i + 1) m' σ' H')∧∀ x H',(Itt K a).yld i H x H'→g x σ H' fun σ2 H2=>tb { D with nx:=N,ct:=N,bk:=D.nx } σ2 H2):=by
  refine ⟨fun i m σ H=>m = xs.length - i∧i ≤ xs.length∧Pv i σ H,⟨xs.length,by simp,Nat.zero_le _,h0⟩,?_⟩
  rintro i m σ H ⟨rfl, hi, p⟩
  have q := hl i σ H hi p
  by_cases hlt : i < xs.length
  · refine .inr ⟨⟨xs,xs[i],q,by simp [hlt]⟩,Pv (i + 1),fun σ' H' p'=>⟨xs.length - (i + 1),by omega,rfl,hlt,p'⟩,fun x H' y=>?_⟩
    obtain ⟨e, y⟩ := y
    subst e
    exact hs i x σ _ (y xs q) p
  · have e : i = xs.length := by omega
    subst e
    exact .inl ⟨⟨xs, q, Nat.le_refl _⟩, hd σ H p⟩
theorem for_range {lo:Int} {n:Nat} {g:TG} {tb:TS} {D:Ends} {σ:St} {H:Hp} (Pv:Nat→St→Hp→Prop) (h0:Pv 0 σ H)
    (hs:∀ i σ H,i < n→Pv i σ H→g (.int (lo + i)) σ H fun σ2 H2=>tb { D with nx:=Pv (i + 1),ct:=Pv (i + 1),bk:=D.nx } σ2 H2) (hd:∀ σ H,Pv n σ H→D.nx σ H) :
    ∃ W:Nat→Nat→St→Hp→Prop,(∃ m,W 0 m σ H)∧∀ i m σ H,W i m σ H →
      ((Itr lo n).stop i H∧D.nx σ H) ∨ ((Itr lo n).go i H∧∃ N:St→Hp→Prop,(∀ σ' H',N σ' H'→∃ m',m' < m∧W (i + 1) m' σ' H')∧∀ x H',(Itr lo n).yld i H x H'→g x σ H' fun σ2 H2=>tb { D with nx:=N,ct:=N,bk:=D.nx } σ2 H2):=by
  refine ⟨fun i m σ H=>m = n - i∧i ≤ n∧Pv i σ H,⟨n,by simp,Nat.zero_le _,h0⟩,?_⟩
  rintro i m σ H ⟨rfl, hi, p⟩
  by_cases hlt : i < n
  · refine .inr ⟨hlt,Pv (i + 1),fun σ' H' p'=>⟨n - (i + 1),by omega,rfl,hlt,p'⟩,fun x H' y=>?_⟩
    obtain ⟨e, y⟩ := y
    subst e y
    exact hs i σ _ hlt p
  · have e : i = n := by omega
    subst e
    exact .inl ⟨Nat.le_refl _, hd σ H p⟩
end L2
namespace L2
open PySem PySem.Spec PyProof.Rows
abbrev R2 := V → V → Hp → VK → Prop
def OpR (X:Cx) (f:Value→Value→Sem Value) (r:R2):Prop :=
  ∀ (pins:List (Addr × Obj)) (s:Shared) (σ:St) (H:Hp) (x y:V) (v u:Value) (Q:VK),Inv X pins σ H s→RelV x v→RelV y u→r x y H Q →
    wpAny (model X.prog X.w) X.A (f v u) (EP X pins σ Q) X.xe s
def UnR (X:Cx) (f:Value→Sem Value) (r:V→Hp→VK→Prop):Prop :=
  ∀ (pins:List (Addr × Obj)) (s:Shared) (σ:St) (H:Hp) (x:V) (v:Value) (Q:VK),Inv X pins σ H s→RelV x v→r x H Q →
    wpAny (model X.prog X.w) X.A (f v) (EP X pins σ Q) X.xe s
def CallR (X:Cx) (f:Value) (r:List V→Hp→VK→Prop):Prop :=
  ∀ (pins:List (Addr × Obj)) (s:Shared) (σ:St) (H:Hp) (xs:List V) (us:List Value) (Q:VK),Inv X pins σ H s→Vals xs us→r xs H Q →
    wpAny (model X.prog X.w) X.A (call f us) (EP X pins σ Q) X.xe s
def tOp (r:R2) (ta tb:TE):TE:=fun σ H Q=>ta σ H fun x H1=>tb σ H1 fun y H2=>r x y H2 Q
def tUn (r:V→Hp→VK→Prop) (ta:TE):TE:=fun σ H Q=>ta σ H fun x H1=>r x H1 Q
def rI (C:Int→Int→Prop) (g:Int→Int→V):R2:=fun x y H Q=>∃ i j,x = .int i∧y = .int j∧C i j∧Q (g i j) H
def rI0 (g:Int→Int→V):R2:=fun x y H Q=>∃ i j,x = .int i∧y = .int j∧Q (g i j) H
def rU (g:Int→V):V→Hp→VK→Prop:=fun x H Q=>∃ i,x = .int i∧Q (g i) H
section
variable {X : Cx} {a b c : Expr} {ta tb tc : TE} {pos : Pos}
theorem binT (ha:PE X a ta) (hb:PE X b tb) {pins:List (Addr × Obj)} {s:Shared} {σ:St} {H:Hp} {R:V→V→Hp→Prop} (I:Inv X pins σ H s)
    (h:ta σ H fun x H1=>tb σ H1 fun y H2=>R x y H2) {Q:Value→Shared→Prop} {f:Value→Value→Sem Value}
    (hf:∀ v u s2 x y H2,Inv X pins σ H2 s2→RelV x v→RelV y u→R x y H2→wpAny (model X.prog X.w) X.A (f v u) Q X.xe s2) :
    wpAny (model X.prog X.w) X.A (eval a X.env) (fun v s₁=>wpAny (model X.prog X.w) X.A (eval b X.env) (fun u s₂=>wpAny (model X.prog X.w) X.A (f v u) Q X.xe s₂) X.xe s₁) X.xe s:=by
  refine thn (ha pins s σ H _ I h) fun v s1 ⟨x,H1,I1,r1,q1⟩=>?_
  refine thn (hb pins s1 σ H1 _ I1 q1) fun u s2 ⟨y,H2,I2,r2,q2⟩=>?_
  exact hf v u s2 x y H2 I2 r1 r2 q2
theorem pe_op {op:Operator} {r:R2} (ho:OpR X (binaryOp op) r) (ha:PE X a ta) (hb:PE X b tb):PE X (.BinOp a op b pos) (tOp r ta tb):=by
  intro pins s σ H Q I h
  exact wpAny_BinOp (binT ha hb I h fun v u s2 x y H2 I2 rx ry q=>ho pins s2 σ H2 x y v u Q I2 rx ry q)
theorem pe_un {op:UnaryOp} {r:V→Hp→VK→Prop} (ho:UnR X (unaryOp op) r) (ha:PE X a ta):PE X (.UnaryOp op a pos) (tUn r ta):=by
  intro pins s σ H Q I h
  exact UnaryOp_ (thn (ha pins s σ H _ I h) fun v s1 ⟨x,H1,I1,r1,q1⟩=>ho pins s1 σ H1 x v Q I1 r1 q1)
theorem opI {f:Value→Value→Sem Value} {C:Int→Int→Prop} {g:Int→Int→Int}
    (rule:∀ (i j:Int) (t u:Tok) (s:Shared) (Q:Value→Shared→Prop) (E:Value→Shared→Prop),C i j→Q (.int (g i j) s.toks) { s with toks:=s.toks + 1 }→wpAny (model X.prog X.w) X.A (f (.int i t) (.int j u)) Q E s) :
    OpR X f (rI C fun i j => .int (g i j)) := by
  intro pins s σ H x y v u Q I rx ry h
  obtain ⟨i, j, rfl, rfl, hc, q⟩ := h
  obtain ⟨t, rfl⟩ := rx
  obtain ⟨t', rfl⟩ := ry
  exact rule i j t t' s _ _ hc ⟨.int (g i j),H,I.tok _,⟨_,rfl⟩,q⟩
theorem opI0 {f:Value→Value→Sem Value} {g:Int→Int→Int}
    (rule:∀ (i j:Int) (t u:Tok) (s:Shared) (Q:Value→Shared→Prop) (E:Value→Shared→Prop),Q (.int (g i j) s.toks) { s with toks:=s.toks + 1 }→wpAny (model X.prog X.w) X.A (f (.int i t) (.int j u)) Q E s) :
    OpR X f (rI0 fun i j => .int (g i j)) := by
  intro pins s σ H x y v u Q I rx ry h
  obtain ⟨i, j, rfl, rfl, q⟩ := h
  obtain ⟨t, rfl⟩ := rx
  obtain ⟨t', rfl⟩ := ry
  exact rule i j t t' s _ _ ⟨.int (g i j),H,I.tok _,⟨_,rfl⟩,q⟩
theorem opB0 {f:Value→Value→Sem Value} {g:Int→Int→Bool}
    (rule:∀ (i j:Int) (t u:Tok) (s:Shared) (Q:Value→Shared→Prop) (E:Value→Shared→Prop),Q (.bool (g i j)) s→wpAny (model X.prog X.w) X.A (f (.int i t) (.int j u)) Q E s) :
    OpR X f (rI0 fun i j => .bl (g i j)) := by
  intro pins s σ H x y v u Q I rx ry h
  obtain ⟨i, j, rfl, rfl, q⟩ := h
  obtain ⟨t, rfl⟩ := rx
  obtain ⟨t', rfl⟩ := ry
  exact rule i j t t' s _ _ ⟨.bl (g i j), H, I, rfl, q⟩
def CPow (i j:Int):Prop:=0 ≤ j∧j ≤ 1000000∧i.natAbs < 2 ^ 64
def CMul (i j:Int):Prop:=(-(2 ^ 64) < i∧i < 2 ^ 64) ∨ (-(2 ^ 64) < j∧j < 2 ^ 64)
theorem CMul.ok {i j:Int} (h:CMul i j):IntMulOk i j:=by
  rcases h with ⟨h1, h2⟩ | ⟨h1, h2⟩
  · exact .of_left (intBits_le_64 h1 h2)
  · exact .of_right (intBits_le_64 h1 h2)
theorem op_add:OpR X (binaryOp .Add) (rI0 fun i j=>.int (i + j)):=opI0 fun _ _ _ _ _ _ _ q=>add_int q
theorem op_sub:OpR X (binaryOp .Sub) (rI0 fun i j=>.int (i - j)):=opI0 fun _ _ _ _ _ _ _ q=>sub_int q
theorem op_mod:OpR X (binaryOp .Mod) (rI (fun _ j=>0 < j) fun i j=>.int (i % j)):=opI fun i j _ _ _ _ _ hc q=>by
  have h1 : (0 : Int) < j := hc
  exact mod_int' (by omega) (by rw [Int.fmod_eq_emod_of_nonneg i (by omega)]; exact q)
theorem op_modN:OpR X (binaryOp .Mod) (rI (fun _ j=>j ≠ 0) fun i j=>.int (i.fmod j)):=opI fun _ _ _ _ _ _ _ hc q=>mod_int' hc q
theorem op_pow:OpR X (binaryOp .Pow) (rI CPow fun i j=>.int (i ^ j.toNat)):=opI fun _ _ _ _ _ _ _ hc q=>pow_int_small hc.1 hc.2.1 hc.2.2 q
theorem unI {f : Value → Sem Value} {g : Int → Int}
    (rule:∀ (i:Int) (t:Tok) (s:Shared) (Q:Value→Shared→Prop) (E:Value→Shared→Prop),Q (.int (g i) s.toks) { s with toks:=s.toks + 1 }→wpAny (model X.prog X.w) X.A (f (.int i t)) Q E s) :
    UnR X f (rU fun i => .int (g i)) := by
  intro pins s σ H x v Q I rx h
  obtain ⟨i, rfl, q⟩ := h
  obtain ⟨t, rfl⟩ := rx
  exact rule i t s _ _ ⟨.int (g i), H, I.tok _, ⟨_, rfl⟩, q⟩
theorem un_neg:UnR X (unaryOp .USub) (rU fun i=>.int (-i)):=unI fun _ _ _ _ _ q=>neg_int q
end
def scal : V → V → Bool
  | .non,.non=>true | .non,.int _=>true | .int _,.non=>true | .non,.bl _=>true | .bl _,.non=>true | .non,.str _=>true | .str _,.non=>true
  | .int _,.int _=>true | .bl _,.bl _=>true | .str _,.str _=>true | .byt _,.byt _=>true
  | .int _,.str _=>true | .str _,.int _=>true | .bl _,.str _=>true | .str _,.bl _=>true
  | _, _ => false
def rEq:R2:=fun x y H Q=>scal x y = true∧Q (.bl (decide (x = y))) H
def rNe:R2:=fun x y H Q=>scal x y = true∧Q (.bl (!decide (x = y))) H
theorem dec_int {i j:Int}:decide (V.int i = V.int j) = (i == j):=by
  rw [Bool.eq_iff_iff]
  simp
theorem dec_bl {i j:Bool}:decide (V.bl i = V.bl j) = (i == j):=by
  rw [Bool.eq_iff_iff]
  simp
theorem dec_str {i j:Str}:decide (V.str i = V.str j) = (i == j):=by
  rw [Bool.eq_iff_iff]
  simp
theorem dec_byt {i j:Array UInt8}:decide (V.byt i = V.byt j) = (i.toList == j.toList):=by
  rw [Bool.eq_iff_iff]
  cases i
  cases j
  simp
section
variable {X : Cx} {a b c : Expr} {ta tb tc : TE} {pos : Pos}
theorem fin_bl {pins:List (Addr × Obj)} {σ:St} {H:Hp} {s:Shared} {Q:VK} {k k':Bool} (I:Inv X pins σ H s) (q:Q (.bl k) H) (e:k = k'):EP X pins σ Q (.bool k') s:=by
  subst e
  exact ⟨.bl k, H, I, rfl, q⟩
theorem op_eq : OpR X (compareOp .Eq) rEq := by
  intro pins s σ H x y v u Q I rx ry h
  obtain ⟨hs, q⟩ := h
  cases x with
  | non =>
    cases rx
    cases y with
    | non=>cases ry; exact PySem.EqNone.eq_none_none (fin_bl I q (by simp))
    | bl j=>cases ry; exact PySem.EqNone.eq_none_bool (fin_bl I q (by simp))
    | int j=>obtain ⟨t',rfl⟩:=ry; exact PySem.EqNone.eq_none_int (fin_bl I q (by simp))
    | str j=>obtain ⟨t',rfl⟩:=ry; exact PySem.EqNone.eq_none_str (fin_bl I q (by simp))
    | _=>exact absurd (show false = true from hs) Bool.false_ne_true
  | bl i =>
    cases rx
    cases y with
    | non=>cases ry; exact PySem.EqNone.eq_bool_none (fin_bl I q (by simp))
    | bl j => cases ry; exact eq_bool (fin_bl I q dec_bl)
    | str j=>obtain ⟨t',rfl⟩:=ry; exact PySem.EqMixed.eq_bool_str (fin_bl I q (by simp))
    | _=>exact absurd (show false = true from hs) Bool.false_ne_true
  | int i =>
    obtain ⟨t, rfl⟩ := rx
    cases y with
    | non=>cases ry; exact PySem.EqNone.eq_int_none (fin_bl I q (by simp))
    | int j=>obtain ⟨t',rfl⟩:=ry; exact eq_int (fin_bl I q dec_int)
    | str j=>obtain ⟨t',rfl⟩:=ry; exact PySem.EqMixed.eq_int_str (fin_bl I q (by simp))
    | _=>exact absurd (show false = true from hs) Bool.false_ne_true
  | str i =>
    obtain ⟨t, rfl⟩ := rx
    cases y with
    | non=>cases ry; exact PySem.EqNone.eq_str_none (fin_bl I q (by simp))
    | bl j=>cases ry; exact PySem.EqMixed.eq_str_bool (fin_bl I q (by simp))
    | int j=>obtain ⟨t',rfl⟩:=ry; exact PySem.EqMixed.eq_str_int (fin_bl I q (by simp))
    | str j=>obtain ⟨t',rfl⟩:=ry; exact eq_str (fin_bl I q dec_str)
    | _=>exact absurd (show false = true from hs) Bool.false_ne_true
  | byt i =>
    obtain ⟨t, rfl⟩ := rx
    cases y with
    | byt j=>obtain ⟨t',rfl⟩:=ry; exact PySem.W.eq_bytes (fin_bl I q dec_byt)
    | _=>exact absurd (show false = true from hs) Bool.false_ne_true
  | _=>cases y <;> exact absurd (show false = true from hs) Bool.false_ne_true
theorem op_ne : OpR X (compareOp .NotEq) rNe := by
  intro pins s σ H x y v u Q I rx ry h
  obtain ⟨hs, q⟩ := h
  cases x with
  | non =>
    cases rx
    cases y with
    | non=>cases ry; exact PySem.EqNone.ne_none_none (fin_bl I q (by simp))
    | bl j=>cases ry; exact PySem.EqNone.ne_none_bool (fin_bl I q (by simp))
    | int j=>obtain ⟨t',rfl⟩:=ry; exact PySem.EqNone.ne_none_int (fin_bl I q (by simp))
    | str j=>obtain ⟨t',rfl⟩:=ry; exact PySem.EqNone.ne_none_str (fin_bl I q (by simp))
    | _=>exact absurd (show false = true from hs) Bool.false_ne_true
  | bl i =>
    cases rx
    cases y with
    | non=>cases ry; exact PySem.EqNone.ne_bool_none (fin_bl I q (by simp))
    | bl j=>cases ry; exact ne_bool (fin_bl I q (congrArg not dec_bl))
    | str j=>obtain ⟨t',rfl⟩:=ry; exact PySem.EqMixed.ne_bool_str (fin_bl I q (by simp))
    | _=>exact absurd (show false = true from hs) Bool.false_ne_true
  | int i =>
    obtain ⟨t, rfl⟩ := rx
    cases y with
    | non=>cases ry; exact PySem.EqNone.ne_int_none (fin_bl I q (by simp))
    | int j=>obtain ⟨t',rfl⟩:=ry; exact ne_int (fin_bl I q (congrArg not dec_int))
    | str j=>obtain ⟨t',rfl⟩:=ry; exact PySem.EqMixed.ne_int_str (fin_bl I q (by simp))
    | _=>exact absurd (show false = true from hs) Bool.false_ne_true
  | str i =>
    obtain ⟨t, rfl⟩ := rx
    cases y with
    | non=>cases ry; exact PySem.EqNone.ne_str_none (fin_bl I q (by simp))
    | bl j=>cases ry; exact PySem.EqMixed.ne_str_bool (fin_bl I q (by simp))
    | int j=>obtain ⟨t',rfl⟩:=ry; exact PySem.EqMixed.ne_str_int (fin_bl I q (by simp))
    | str j=>obtain ⟨t',rfl⟩:=ry; exact ne_str (fin_bl I q (congrArg not dec_str))
    | _=>exact absurd (show false = true from hs) Bool.false_ne_true
  | byt i =>
    obtain ⟨t, rfl⟩ := rx
    cases y with
    | byt j=>obtain ⟨t',rfl⟩:=ry; exact PySem.W.ne_bytes (fin_bl I q (congrArg not dec_byt))
    | _=>exact absurd (show false = true from hs) Bool.false_ne_true
  | _=>cases y <;> exact absurd (show false = true from hs) Bool.false_ne_true
theorem op_lt:OpR X (compareOp .Lt) (rI0 fun i j=>.bl (decide (i < j))):=opB0 fun _ _ _ _ _ _ _ q=>lt_int q
theorem op_le:OpR X (compareOp .LtE) (rI0 fun i j=>.bl (decide (i ≤ j))):=opB0 fun _ _ _ _ _ _ _ q=>le_int q
theorem op_gt:OpR X (compareOp .Gt) (rI0 fun i j=>.bl (decide (j < i))):=opB0 fun _ _ _ _ _ _ _ q=>gt_int q
theorem op_ge:OpR X (compareOp .GtE) (rI0 fun i j=>.bl (decide (j ≤ i))):=opB0 fun _ _ _ _ _ _ _ q=>ge_int q
theorem nomark (b:Expr) {op:CmpOp} (h:op ≠ .In:=by decide) (h2:op ≠ .NotIn:=by decide):behindInMarks op b = false:=by
  have e1:(op == CmpOp.In) = false:=by cases op <;> first | rfl | exact absurd rfl h
  have e2:(op == CmpOp.NotIn) = false:=by cases op <;> first | rfl | exact absurd rfl h2
  cases b <;> simp [behindInMarks, e1, e2]
theorem pe_cmpR {op:CmpOp} {r:R2} (ho:OpR X (compareOp op) r) (ha:PE X a ta) (hb:PE X b tb) (hm:behindInMarks op b = false):PE X (.Compare a [op] [b] pos) (tOp r ta tb):=by
  intro pins s σ H Q I h
  exact wpAny_Compare1 (binT ha hb I h fun v u s2 x y H2 I2 rx ry q=>ho pins s2 σ H2 x y v u Q I2 rx ry q) hm
def tTest (t:TE):TT:=fun σ H Q=>t σ H fun x H'=>∃ k,x = .bl k∧Q k H'
theorem pt_cmpR {op:CmpOp} {r:R2} (ho:OpR X (compareOp op) r) (ha:PE X a ta) (hb:PE X b tb) (hm:behindInMarks op b = false):PT X (.Compare a [op] [b] pos) (tTest (tOp r ta tb)):=by
  intro pins s σ H Q I h
  refine wpAny_isTrue_Compare1 (thn (ha pins s σ H _ I h) fun v s1 ⟨x,H1,I1,r1,q1⟩=>thn (hb pins s1 σ H1 _ I1 q1) fun u s2 ⟨y,H2,I2,r2,q2⟩ =>
    thn (ho pins s2 σ H2 x y v u _ I2 r1 r2 q2) fun c s3 ⟨z,H3,I3,r3,k,e,q3⟩=>?_) hm
  subst e
  cases r3
  exact wpAny_truthy_bool ⟨H3, I3, q3⟩
def tChain (r r':R2) (ta tb tc:TE):TE:=fun σ H Q=>ta σ H fun x H1=>tb σ H1 fun y H2=>r x y H2 fun z H3=>∃ k,z = .bl k ∧
  (if k = true then tc σ H3 fun w' H4=>r' y w' H4 Q else Q (.bl false) H3)
theorem pe_chain {op op':CmpOp} {r r':R2} (ho:OpR X (compareOp op) r) (ho':OpR X (compareOp op') r') (ha:PE X a ta) (hb:PE X b tb) (hc:PE X c tc)
    (hm:lastMarks [op,op'] [b,c] = false:=by with_unfolding_all rfl):PE X (.Compare a [op,op'] [b,c] pos) (tChain r r' ta tb tc):=by
  intro pins s σ H Q I h
  refine Compare_chain (thn (ha pins s σ H _ I h) fun v s1 ⟨x,H1,I1,r1,q1⟩=>chain_link (thn (hb pins s1 σ H1 _ I1 q1) fun u s2 ⟨y,H2,I2,r2,q2⟩ =>
    thn (ho pins s2 σ H2 x y v u _ I2 r1 r2 q2) fun d s3 ⟨z,H3,I3,r3,k,e,q3⟩=>?_)) hm
  subst e
  cases r3
  refine wpAny_truthy_bool ?_
  cases k with
  | false => exact ite_ff ⟨.bl false, H3, I3, rfl, q3⟩
  | true=>exact ite_tt (chain_last (thn (hc pins s3 σ H3 _ I3 q3) fun w' s4 ⟨z',H4,I4,r4,q4⟩=>ho' pins s4 σ H4 y z' u w' Q I4 r2 r4 q4))
theorem pt_chain {op op':CmpOp} {r r':R2} (ho:OpR X (compareOp op) r) (ho':OpR X (compareOp op') r') (ha:PE X a ta) (hb:PE X b tb) (hc:PE X c tc)
    (hm:lastMarks [op,op'] [b,c] = false:=by with_unfolding_all rfl):PT X (.Compare a [op,op'] [b,c] pos) (tTest (tChain r r' ta tb tc)):=by
  intro pins s σ H Q I h
  refine isTrue_chain (thn (ha pins s σ H _ I h) fun v s1 ⟨x,H1,I1,r1,q1⟩=>test_link (thn (hb pins s1 σ H1 _ I1 q1) fun u s2 ⟨y,H2,I2,r2,q2⟩ =>
    thn (ho pins s2 σ H2 x y v u _ I2 r1 r2 q2) fun d s3 ⟨z,H3,I3,r3,k,e,q3⟩=>?_)) hm
  subst e
  cases r3
  refine wpAny_truthy_bool ?_
  cases k with
  | false =>
    obtain ⟨k', e', q'⟩ := q3
    cases e'
    exact ite_ff ⟨H3, I3, q'⟩
  | true =>
    refine ite_tt (test_last (thn (hc pins s3 σ H3 _ I3 q3) fun w' s4 ⟨z',H4,I4,r4,q4⟩=>thn (ho' pins s4 σ H4 y z' u w' _ I4 r2 r4 q4) fun d' s5 ⟨z2,H5,I5,r5,k2,e2,q5⟩=>?_))
    subst e2
    cases r5
    exact wpAny_truthy_bool ⟨H5, I5, q5⟩
theorem line63:(sizeLine:Nat) < 2 ^ 63:=by rw [sizeLine_eq]; decide
theorem op_add_str:OpR X (binaryOp .Add) (fun x y H Q=>∃ i j,x = .str i∧y = .str j∧i.length + j.length ≤ sizeLine∧Q (.str (i ++ j)) H):=by
  intro pins s σ H x y v u Q I rx ry h
  obtain ⟨i, j, rfl, rfl, hz, q⟩ := h
  obtain ⟨t, rfl⟩ := rx
  obtain ⟨t', rfl⟩ := ry
  exact add_str (fun t' tk=>⟨.str (i ++ j),H,I.tok _,⟨_,rfl⟩,q⟩) hz
theorem vals1 {x:V} {us:List Value} (r:Vals [x] us):∃ u,us = [u]∧RelV x u:=by
  cases r with
  | cons r1 r2 => cases r2; exact ⟨_, rfl, r1⟩
theorem vals2 {x y:V} {us:List Value} (r:Vals [x,y] us):∃ u w',us = [u,w']∧RelV x u∧RelV y w':=by
  cases r with
  | cons r1 r2 =>
    cases r2 with
    | cons r3 r4 => cases r4; exact ⟨_, _, rfl, r1, r3⟩
theorem call_abs:CallR X (.builtin "abs") (fun xs H Q=>∃ i,xs = [.int i]∧Q (.int (if i < 0 then -i else i)) H):=by
  intro pins s σ H xs us Q I r h
  obtain ⟨i, rfl, q⟩ := h
  obtain ⟨u, rfl, t, rfl⟩ := vals1 r
  exact call_abs_int fun u tk=>⟨.int (if i < 0 then -i else i),H,I.tok _,⟨_,rfl⟩,q⟩
theorem call_max2 (hc:X.calm = true):CallR X (.builtin "max") (fun xs H Q=>∃ i j,xs = [.int i,.int j]∧Q (.int (if j > i then j else i)) H):=by
  intro pins s σ H xs us Q I r h
  obtain ⟨i, j, rfl, q⟩ := h
  obtain ⟨u, w', rfl, ⟨t, rfl⟩, ⟨t', rfl⟩⟩ := vals2 r
  refine max_two_ints (I.ok.hd hc) fun h' tk k=>⟨_,H,I.kept k,?_,q⟩
  by_cases hj : j > i
  · rw [if_pos hj, if_pos hj]; exact ⟨_, rfl⟩
  · rw [if_neg hj, if_neg hj]; exact ⟨_, rfl⟩
theorem call_min2 (hc:X.calm = true):CallR X (.builtin "min") (fun xs H Q=>∃ i j,xs = [.int i,.int j]∧Q (.int (if j < i then j else i)) H):=by
  intro pins s σ H xs us Q I r h
  obtain ⟨i, j, rfl, q⟩ := h
  obtain ⟨u, w', rfl, ⟨t, rfl⟩, ⟨t', rfl⟩⟩ := vals2 r
  refine min_two_ints (I.ok.hd hc) fun h' tk k=>⟨_,H,I.kept k,?_,q⟩
  by_cases hj : j < i
  · rw [if_pos hj, if_pos hj]; exact ⟨_, rfl⟩
  · rw [if_neg hj, if_neg hj]; exact ⟨_, rfl⟩
end
end L2
namespace L2
open PySem PySem.Spec PyProof.Rows
structure ObjM (h:Heap) (x dx C:Addr) (mA:Str→Option Value):Prop where
  obj : h.get? x = some (PySem.W.instObj C dx)
  ns : h.Ns1 dx mA
  ne : dx ≠ x
theorem lookIn_ns {h:Heap} {dx:Addr} {mA:Str→Option Value} (n:h.Ns1 dx mA):∃ od,h.get? dx = some od∧∀ name,PySem.W.lookIn name od = some (mA name):=by
  obtain ⟨o, es, ep, ho, hd, hk, _, hm⟩ := n
  refine ⟨o, ho, fun name => ?_⟩
  have e := hm name
  unfold nsFind findBy at e
  rw [← Array.find?_toList] at e
  unfold PySem.W.lookIn
  rw [hd]
  dsimp only
  split
  · rename_i y q
    rw [q] at e
    exact congrArg some e
  · rename_i q
    rw [q] at e
    have a : es.toList.any (·.refKey) = false := by
      rw [List.any_eq_false]
      intro y hy
      obtain ⟨z,t,hkey⟩:=hk y (Array.mem_toList_iff.mp hy)
      simp [DictEntry.refKey, hkey]
    have a':¬ es.toList.any (·.refKey) = true:=by rw [a]; exact Bool.false_ne_true
    rw [if_neg a']
    exact congrArg some e
theorem ObjM.look {h:Heap} {x dx C:Addr} {mA:Str→Option Value} (I:ObjM h x dx C mA):∃ od,PySem.W.InstAt h x (PySem.W.instObj C dx) C (some od)∧∀ name,PySem.W.lookIn name od = some (mA name) :=
  let ⟨od, ho, hl⟩ := lookIn_ns I.ns
  ⟨od, ⟨I.obj, rfl, rfl, ho⟩, hl⟩
section
variable {prog:Program} {w:World} {A:Around} {E:Value→Shared→Prop} {s:Shared} {K:PySem.W.Frag} {x dx C f:Addr} {mA:Str→Option Value} {name:Str} {v:Value}
theorem get_map {expr:Bool} {Q:Value→Shared→Prop} (X:K.In s.heap) (I:ObjM s.heap x dx C mA) (hg:PySem.W.plainGet K C name = true) (hh:PySem.W.hasDictIn K C = true)
    (ha:PySem.W.findIn K (.ref C) name = some none) (hv:mA name = some v) (hv':PySem.W.handedIn v = true) (h:Q v { s with toks:=s.toks + 1 }) :
    wpAny (model prog w) A (getAttr (.ref x) name expr) Q E s:=by
  obtain ⟨od, J, hl⟩ := I.look
  exact PySem.W.get_value X J (PySem.W.plainGet_of hg).1 (PySem.W.findObj_own hh ha rfl (by rw [hl,hv])) hv' h
theorem get_meth {pl:Sem Bool} {Q:Value × List Value→Shared→Prop} (X:K.In s.heap) (I:ObjM s.heap x dx C mA) (hg:PySem.W.plainGet K C name = true)
    (hf:PySem.W.findIn K (.ref C) name = some (some (.ref f))) (ht:PySem.W.isFn K (.ref f) = true) (hv:mA name = none) (h:Q (.ref f,[.ref x]) s) :
    wpAny (model prog w) A (getMethod (.ref x) name pl) Q E s:=by
  obtain ⟨od, J, hl⟩ := I.look
  exact PySem.W.method_fn X J (PySem.W.plainGet_of hg).1 (PySem.W.plainGet_of hg).2 hf (beq_iff_eq.mp ht) (by show (PySem.W.lookIn name od).map (·.isSome) = some false; rw [hl,hv]; rfl) h
theorem set_map {ns:List Str} {Q:Unit→Shared→Prop} (X:K.In s.heap) (I:ObjM s.heap x dx C mA)
    (hs:PySem.W.findIn K (.ref C) "__setattr__" = some (some (.builtin "object.__setattr__"))) (hp:PySem.W.plainOver K C = true) (ht:PySem.W.takerIn K C name = some none) (hh:PySem.W.hasDictIn K C = true)
    (hw : PySem.Within mA ns) (hsz : ns.length ≤ sizeLine)
    (h:∀ h',ObjM h' x dx C (fun y=>if y = name then some v else mA y)→Heap.SameBut dx s.heap h'→Q () { s with heap:=h',toks:=s.toks + 2 }) :
    wpAny (model prog w) A (setAttr (.ref x) name v) Q E s:=by
  obtain ⟨od, J, hl⟩ := I.look
  refine PySem.W.set_plain X J hs (PySem.W.osa_open (s:={ s with toks:=s.toks + 1 }) (r:=none) X J hp ht fun b=>?_)
  obtain ⟨cd, hc, hd'⟩ := PySem.W.any_some hh
  have hx:s.heap.get? x = some ⟨.ref C,some dx,.plain,#[]⟩:=I.obj
  refine wpAny_bind (wpAny_pure (wpAny_bind (wpAny_bind (wpAny_loadPart hx (wpAny_bind (PySem.W.Looks.here (s:={ s with toks:=s.toks + 1 }) (PySem.W.looks_clsIn X hc) ?_))))))
  rw [hd']
  refine wpAny_pure (a:=some dx) (wpAny_bind (wpAny_pure (wpAny_bind ?_)))
  refine wpAny_nsSet1 (s:={ s with toks:=s.toks + 1 }) I.ns fun h' hn2 hs2=>?_
  obtain ⟨oD,esD,epD,hoD,hdD,hcD⟩:=hn2.count (PySem.Within.cons name v hw)
  refine wpAny_bind (wpAny_lookBehind hoD (by rw [hdD]; exact pastItsLine_dict (Nat.le_trans hcD (by rw [List.length_cons]; omega))) ?_)
  exact wpAny_pure (h _ ⟨(hs2.2 _ (Ne.symm I.ne)).trans I.obj,hn2,I.ne⟩ hs2)
theorem make_map {R:Result→Shared→Prop} {vs:List Value} {kw:List (Str × Value)} (X:K.In s.heap) (hm:PySem.W.makesIn K C = true)
    (hi:PySem.W.findIn K (.ref C) "__init__" = some (some (.ref f))) (hf:PySem.W.typeIn K (.ref f) = some (.type "function"))
    (h:codeAny (model prog w) (A.under (.builtin "type.__call__" ⟨.ref C :: vs,kw⟩)) (.call (.ref f) ⟨.ref (s.heap.objs.size + 1) :: vs,kw⟩) (PySem.W.InitBack (s.heap.objs.size + 1) R)
      { s with heap:=(s.heap.push PySem.W.emptyDict).push (PySem.W.instObj C s.heap.objs.size) }) :
    codeAny (model prog w) A (.call (.ref C) ⟨vs,kw⟩) R s:=by
  obtain ⟨hh, g, d, t, os⟩ := s
  exact PySem.W.make_core (PySem.W.makes_of X hm) (PySem.W.looks_findIn X hi) (fun self=>PySem.W.bind_fn X self hf) (.inl rfl) h
end
def putF (f : Str) (v : V) : List (Str × V) → List (Str × V)
  | [] => [(f, v)]
  | (g,x) :: r=>if g = f then (g,v) :: r else (g,x) :: putF f v r
theorem lookup_putF (f g:Str) (v:V):∀ fs:List (Str × V),(putF f v fs).lookup g = if g = f then some v else fs.lookup g
  | [] => by
    show List.lookup g [(f, v)] = _
    by_cases h : g = f
    · have hb : (g == f) = true := beq_iff_eq.mpr h
      simp only [List.lookup, hb, if_pos h]
    · have hb:(g == f) = false:=beq_eq_false_iff_ne.mpr h
      simp only [List.lookup, hb, if_neg h]
  | (k, x) :: r => by
    have ih := lookup_putF f g v r
    rw [show putF f v ((k,x) :: r) = (if k = f then (k,v) :: r else (k,x) :: putF f v r) from rfl]
    by_cases hk : k = f
    · rw [if_pos hk]
      by_cases h : g = k
      · have hb : (g == k) = true := beq_iff_eq.mpr h
        simp only [List.lookup, hb, if_pos (h.trans hk)]
      · have hb:(g == k) = false:=beq_eq_false_iff_ne.mpr h
        simp only [List.lookup,hb,if_neg (fun e:g = f=>h (e.trans hk.symm))]
    · rw [if_neg hk]
      by_cases h : g = k
      · have hb : (g == k) = true := beq_iff_eq.mpr h
        simp only [List.lookup,hb,if_neg (fun e:g = f=>hk (h.symm.trans e))]
      · have hb:(g == k) = false:=beq_eq_false_iff_ne.mpr h
        simp only [List.lookup, hb]
        exact ih
theorem keys_putF (f:Str) (v:V):∀ fs:List (Str × V),f ∈ (putF f v fs).map (·.1)∧∀ g,g ∈ fs.map (·.1)→g ∈ (putF f v fs).map (·.1)
  | [] => ⟨by simp [putF], fun g h => by simp at h⟩
  | (k, x) :: r => by
    obtain ⟨i1, i2⟩ := keys_putF f v r
    rw [show putF f v ((k,x) :: r) = (if k = f then (k,v) :: r else (k,x) :: putF f v r) from rfl]
    by_cases hk : k = f
    · rw [if_pos hk]
      subst hk
      exact ⟨by simp, fun g h => by simpa using h⟩
    · rw [if_neg hk]
      refine ⟨?_, fun g h => ?_⟩
      · rw [List.map_cons]
        exact List.mem_cons_of_mem _ i1
      · rw [List.map_cons] at h ⊢
        rcases List.mem_cons.mp h with e | e
        · exact List.mem_cons.mpr (.inl e)
        · exact List.mem_cons_of_mem _ (i2 g e)
theorem length_putF (f:Str) (v:V):∀ fs:List (Str × V),(putF f v fs).length ≤ fs.length + 1
  | [] => by simp [putF]
  | (k, x) :: r => by
    have ih := length_putF f v r
    rw [show putF f v ((k,x) :: r) = (if k = f then (k,v) :: r else (k,x) :: putF f v r) from rfl]
    by_cases hk : k = f
    · rw [if_pos hk,List.length_cons,List.length_cons]; omega
    · rw [if_neg hk,List.length_cons,List.length_cons]; omega
theorem RelO.some_of {v:V} {o:Option Value} (r:RelO (some v) o):∃ u,o = some u∧RelV v u:=by
  cases o with
  | none => exact (show False from r).elim
  | some u => exact ⟨u, rfl, r⟩
theorem RelO.none_of {o:Option Value} (r:RelO none o):o = none:=by
  cases o with
  | none => rfl
  | some u => exact (show False from r).elim
theorem handed_of {v:V} {u:Value} (r:RelV v u):PySem.W.handedIn u = true:=by
  cases v with
  | non => cases (show u = Value.none from r); rfl
  | bl b => cases (show u = Value.bool b from r); rfl
  | int i=>obtain ⟨t,e⟩:=(show ∃ t,u = Value.int i t from r); cases e; rfl
  | str x=>obtain ⟨t,e⟩:=(show ∃ t,u = Value.str x t from r); cases e; rfl
  | byt b=>obtain ⟨t,e⟩:=(show ∃ t,u = Value.bytes b t from r); cases e; rfl
  | flt b=>obtain ⟨t,e⟩:=(show ∃ t,u = Value.float b t from r); cases e; rfl
  | ref a => cases (show u = Value.ref a from r); rfl
  | ty n => cases (show u = Value.type n from r); rfl
section
variable {P:Program} {w:World} {H H':Hp} {h h':Heap} {a C dx:Addr} {fs fs':List (Str × V)}
theorem ins_get (hok:HOk P w H h) (e:H a = some (.ins C dx fs)):∃ mA,ObjM h a dx C mA∧(∀ f,RelO (fs.lookup f) (mA f))∧PySem.Within mA (fs.map (·.1))∧fs.length ≤ 1000∧H dx = some (.own a):=by
  obtain ⟨d,z,ne,ob,mA,n,r,q⟩:=(show ObjOk P w H h a (.ins C dx fs) from hok a _ e)
  exact ⟨mA, ⟨ob, n, ne⟩, r, q, z, d⟩
end
structure Cls (K : PySem.W.Frag) (C : Addr) : Prop where
  pg : PySem.W.plainGet K C Str.empty = true
  hd : PySem.W.hasDictIn K C = true
  po : PySem.W.plainOver K C = true
  sa:PySem.W.findIn K (.ref C) "__setattr__" = some (some (.builtin "object.__setattr__"))
theorem Cls.get {K:PySem.W.Frag} {C:Addr} (c:Cls K C) (f:Str):PySem.W.plainGet K C f = true:=c.pg
def NoAttr (K:PySem.W.Frag) (C:Addr) (f:Str):Prop:=PySem.W.findIn K (.ref C) f = some none
theorem NoAttr.taker {K:PySem.W.Frag} {C:Addr} {f:Str} (n:NoAttr K C f):PySem.W.takerIn K C f = some none:=by
  unfold PySem.W.takerIn
  rw [show PySem.W.findIn K (.ref C) f = some none from n]
  rfl
structure Con (K:PySem.W.Frag) (C:Addr) (f:Str) (v:V) (u:Value):Prop where
  at_ : PySem.W.findIn K (.ref C) f = some (some u)
  rel : RelV v u
  get : PySem.W.specialIn K u "__get__" = some none
  cp : PySem.W.copiedNames.contains f = false
structure Meth (K:PySem.W.Frag) (C:Addr) (m:Str) (f:Addr):Prop where
  at_ : PySem.W.findIn K (.ref C) m = some (some (.ref f))
  fn : PySem.W.isFn K (.ref f) = true
  kp : PySem.W.keepIn K (.ref f) = true
section
variable {X:Cx} {pins:List (Addr × Obj)} {σ:St} {H:Hp} {s:Shared} {a C dx:Addr} {fs:List (Str × V)} {f:Str} {v:V} {A:Around} {E:Value→Shared→Prop}
theorem getattr_ok {b:Bool} {Q:Value→Shared→Prop} (I:Inv X pins σ H s) (e:H a = some (.ins C dx fs)) (c:Cls X.K C) (n:NoAttr X.K C f) (l:fs.lookup f = some v)
    (h:∀ u s',Inv X pins σ H s'→RelV v u→Q u s'):wpAny (model X.prog X.w) A (getAttr (.ref a) f b) Q E s:=by
  obtain ⟨mA, O, r, _, _, _⟩ := ins_get I.hok e
  obtain ⟨u,hu,ru⟩:=RelO.some_of (v:=v) (o:=mA f) (by rw [← l]; exact r f)
  exact get_map I.kIn O (c.get f) c.hd n hu (handed_of ru) (h u _ (I.tok _) ru)
theorem getmeth_ok {m:Str} {g:Addr} {pl:Sem Bool} {Q:Value × List Value→Shared→Prop} (I:Inv X pins σ H s) (e:H a = some (.ins C dx fs)) (c:Cls X.K C) (k:Meth X.K C m g) (l:fs.lookup m = none)
    (h:Q (.ref g,[.ref a]) s):wpAny (model X.prog X.w) A (getMethod (.ref a) m pl) Q E s:=by
  obtain ⟨mA, O, r, _, _, _⟩ := ins_get I.hok e
  have hn:mA m = none:=RelO.none_of (by rw [← l]; exact r m)
  exact get_meth I.kIn O (c.get m) k.at_ k.fn hn h
theorem setattr_ok {y:V} {u:Value} {Q:Unit→Shared→Prop} (I:Inv X pins σ H s) (e:H a = some (.ins C dx fs)) (c:Cls X.K C) (n:NoAttr X.K C f) (hl:fs.length < 1000) (ry:RelV y u)
    (h:∀ s',Inv X pins σ (upd H a (.ins C dx (putF f y fs))) s'→Q () s'):wpAny (model X.prog X.w) A (setAttr (.ref a) f u) Q E s:=by
  obtain ⟨mA, O, r, wi, _, ho⟩ := ins_get I.hok e
  have hz:(fs.map (·.1)).length ≤ sizeLine:=by rw [List.length_map,sizeLine_eq]; omega
  refine set_map I.kIn O c.sa c.po n.taker c.hd wi hz fun h' O' sb=>h _ ?_
  have hd:∃ o,h'.get? dx = some o:=let ⟨o,_,_,e',_⟩:=O'.ns; ⟨o,e'⟩
  refine I.write (x:=a) (e:=dx) (by rw [e]; exact True.intro) (.inr ho) (fun b q hb z=>(sb.2 b hb).trans z) hd ?_
  refine ⟨by rw [upd_ne O.ne]; exact ho,?_,O.ne,O'.obj,_,O'.ns,fun g=>?_,fun g hg=>?_⟩
  · have := length_putF f y fs; omega
  · show RelO ((putF f y fs).lookup g) (if g = f then some u else mA g)
    rw [lookup_putF]
    by_cases q : g = f
    · rw [if_pos q, if_pos q]; exact ry
    · rw [if_neg q, if_neg q]; exact r g
  · by_cases q : g = f
    · rw [q]; exact (keys_putF f y fs).1
    · refine (keys_putF f y fs).2 g (wi g fun z => hg ?_)
      show (if g = f then some u else mA g) = none
      rw [if_neg q]; exact z
theorem Inv.made (I:Inv X pins σ H s):Inv X pins σ (upd (upd H s.heap.objs.size (.own (s.heap.objs.size + 1))) (s.heap.objs.size + 1) (.ins C s.heap.objs.size []))
    { s with heap:=(s.heap.push PySem.W.emptyDict).push (PySem.W.instObj C s.heap.objs.size) }:=by
  have e1:(s.heap.push PySem.W.emptyDict).get? s.heap.objs.size = some PySem.W.emptyDict:=Heap.get?_push_size s.heap rfl
  have e2:((s.heap.push PySem.W.emptyDict).push (PySem.W.instObj C s.heap.objs.size)).get? (s.heap.objs.size + 1) = some (PySem.W.instObj C s.heap.objs.size):=by
    have:=Heap.get?_push_size (s.heap.push PySem.W.emptyDict) (o:=PySem.W.instObj C s.heap.objs.size) rfl
    rwa [Heap.size_push] at this
  have e3:(s.heap.push PySem.W.emptyDict).Ns s.heap.objs.size (fun _=>none):=⟨PySem.W.emptyDict,#[],_,e1,rfl,(fun e he=>absurd he (by simp)),fun _=>rfl⟩
  have I1:=I.laid (a:=s.heap.objs.size) (o:=.own (s.heap.objs.size + 1)) (h':=s.heap.push PySem.W.emptyDict) (t':=s.toks) (fun b u q=>Heap.get?_push_of_some _ q) (Nat.le_refl _) ⟨_,e1⟩
  refine I1.laid (a:=s.heap.objs.size + 1) (o:=.ins C s.heap.objs.size []) (t':=s.toks) (fun b u q=>Heap.get?_push_of_some _ q) (Nat.le_of_eq (Heap.size_push _ _)) ?_
  have ne:s.heap.objs.size ≠ s.heap.objs.size + 1:=Nat.ne_of_lt (Nat.lt_succ_self _)
  refine ⟨by rw [upd_ne ne,upd_same],Nat.zero_le _,ne,e2,fun _=>none,(Heap.Ns1.of_empty e3).at fun o q=>Heap.get?_push_of_some _ q,fun _=>True.intro,fun y hy=>absurd rfl hy⟩
theorem attr_of {prog:Program} {w:World} {env:Env} {e:Expr} {f:Str} {pos:Pos} {s:Shared} {Q:Value→Shared→Prop} (hb:attributeBase e f env (eval e env) = eval e env)
    (h:wpAny (model prog w) A (eval e env) (fun o s₁=>wpAny (model prog w) A (getAttr o f true) Q E s₁) E s):wpAny (model prog w) A (eval (.Attribute e f pos) env) Q E s :=
  Attribute_any_ h (by rw [arm_eval_Attribute, hb])
end
def tFld (K:PySem.W.Frag) (ta:TE) (f:Str):TE:=fun σ H Q=>ta σ H fun x H1=>∃ a C dx fs v,x = .ref a∧H1 a = some (.ins C dx fs)∧Cls K C∧NoAttr K C f∧fs.lookup f = some v∧Q v H1
def sFld (K:PySem.W.Frag) (ta tv:TE) (f:Str):TS:=fun D σ H=>tv σ H fun y H1=>ta σ H1 fun x H2=>∃ a C dx fs,x = .ref a∧H2 a = some (.ins C dx fs)∧Cls K C∧NoAttr K C f∧fs.length < 1000 ∧
  D.nx σ (upd H2 a (.ins C dx (putF f y fs)))
section
variable {X:Cx} {o e value:Expr} {f:Str} {pos pos' tpos:Pos} {ta tv:TE}
theorem pe_fld (he:PE X e ta) (hb:attributeBase e f X.env (eval e X.env) = eval e X.env):PE X (.Attribute e f pos) (tFld X.K ta f):=by
  intro pins s σ H Q I h
  refine attr_of hb (thn (he pins s σ H _ I h) fun u s1 ⟨x,H1,I1,rx,a,C,dx,fs,v,ex,ea,c,n,l,q⟩=>?_)
  subst ex
  obtain rfl : u = Value.ref a := rx
  exact getattr_ok I1 ea c n l fun u' s2 I2 ru=>⟨v,H1,I2,ru,q⟩
theorem ps_fld (ha:PE X o ta) (hv:PE X value tv) (hs:swapsWith value (some (.Attribute o f pos')) pos.line X.env = pure false):PS X (.Assign [.Attribute o f pos'] value pos) (sFld X.K ta tv f):=by
  intro pins s σ H D I h
  refine plainObj_wpAny_Assign_Attribute (thn (hv pins s σ H _ I h) fun u s1 ⟨y,H1,I1,ry,q⟩=>thn (ha pins s1 σ H1 _ I1 q) fun ov s2 ⟨x,H2,I2,rx,a,C,dx,fs,ex,ea,c,n,l,q2⟩=>?_) hs
  subst ex
  obtain rfl : ov = Value.ref a := rx
  exact setattr_ok I2 ea c n l ry fun s3 I3=>⟨σ,_,I3,q2⟩
end
section
variable {X:Cx} {pins:List (Addr × Obj)} {σ:St} {H:Hp} {s:Shared} {A:Around} {E:Value→Shared→Prop} {Q:Value→Shared→Prop} {c:Value} {b:Bool}
inductive TyOf (K:PySem.W.Frag) (H:Hp):V→Value→Prop where
  | non : TyOf K H .non (.type "NoneType")
  | bl (x : Bool) : TyOf K H (.bl x) (.type "bool")
  | int (i : Int) : TyOf K H (.int i) (.type "int")
  | str (x : Str) : TyOf K H (.str x) (.type "str")
  | flt (x : UInt64) : TyOf K H (.flt x) (.type "float")
  | lst {a:Addr} {xs:List V} (e:H a = some (.lst xs)):TyOf K H (.ref a) (.type "list")
  | frz {a:Addr} {o:Obj} {xs:List V} (e:H a = some (.frz o (.lst xs))):TyOf K H (.ref a) (.type "list")
  | tup {a:Addr} {xs:List V} (e:H a = some (.tup xs)):TyOf K H (.ref a) (.type "tuple")
  | dK {a:Addr} {kvs:List (Key × V)} (e:H a = some (.dK kvs)):TyOf K H (.ref a) (.type "dict")
  | dT {a:Addr} {kvs:List (List Key × V)} (e:H a = some (.dT kvs)):TyOf K H (.ref a) (.type "dict")
  | ins {a C dx:Addr} {fs:List (Str × V)} (e:H a = some (.ins C dx fs)) (cl:Cls K C) (ha:PySem.W.findIn K (.ref C) "__class__" = some (some (.builtin "object.__class__")))
      (hn:PySem.W.specialIn K (.builtin "object.__class__") "__get__" = some (some (.builtin "getset_descriptor.__get__"))) (htk:PySem.W.takesIn K (.builtin "object.__class__") = some true)
      (hm:PySem.W.mroIn K C (.type "object") = some true):TyOf K H (.ref a) (.ref C)
theorem isinst_ok {x:V} {u t:Value} (I:Inv X pins σ H s) (rx:RelV x u) (ty:TyOf X.K H x t) (e:PySem.W.kitOne X.K t c = some b) (h:∀ tk,Q (.bool b) { s with toks:=tk }) :
    wpAny (model X.prog X.w) A (call (.builtin "isinstance") [u,c]) Q E s:=by
  cases ty with
  | non=>cases (show u = Value.none from rx); exact PySem.W.kia_one PySem.W.kitx_none I.kIn True.intro e (fun z=>nomatch z) h
  | bl y=>cases (show u = Value.bool y from rx); exact PySem.W.kia_one PySem.W.kitx_bool I.kIn True.intro e (fun z=>nomatch z) h
  | int i=>obtain ⟨t,q⟩:=(show ∃ t,u = Value.int i t from rx); cases q; exact PySem.W.kia_one PySem.W.kitx_int I.kIn True.intro e (fun z=>nomatch z) h
  | str y=>obtain ⟨t,q⟩:=(show ∃ t,u = Value.str y t from rx); cases q; exact PySem.W.kia_one PySem.W.kitx_str I.kIn True.intro e (fun z=>nomatch z) h
  | flt y=>obtain ⟨t,q⟩:=(show ∃ t,u = Value.float y t from rx); cases q; exact PySem.W.kia_one PySem.W.kitx_float I.kIn True.intro e (fun z=>nomatch z) h
  | @lst a xs ea =>
    cases (show u = Value.ref a from rx)
    obtain ⟨_,_,n,_,h1⟩:=(show ObjOk X.prog X.w H s.heap a (.lst xs) from I.hok a _ ea)
    exact PySem.W.kia_one PySem.W.kitx_list I.kIn ⟨_,h1,rfl⟩ e (fun z=>nomatch z) h
  | @frz a ob xs ea =>
    cases (show u = Value.ref a from rx)
    obtain ⟨_,_,_,n,_,h1⟩:=(show ObjOk X.prog X.w H s.heap a (.frz ob (.lst xs)) from I.hok a _ ea)
    exact PySem.W.kia_one PySem.W.kitx_list I.kIn ⟨_,h1,rfl⟩ e (fun z=>nomatch z) h
  | @tup a xs ea =>
    cases (show u = Value.ref a from rx)
    obtain ⟨_,_,_,p⟩:=(show ObjOk X.prog X.w H s.heap a (.tup xs) from I.hok a _ ea)
    obtain ⟨o, h1, h2, _⟩ := p
    exact PySem.W.kia_one PySem.W.kitx_tuple I.kIn ⟨o,h1,h2⟩ e (fun z=>nomatch z) h
  | @dK a kvs ea =>
    cases (show u = Value.ref a from rx)
    obtain ⟨_,_,vs,_,p⟩:=(show ObjOk X.prog X.w H s.heap a (.dK kvs) from I.hok a _ ea)
    obtain ⟨o, es, ep, h1, h2, _⟩ := p
    exact PySem.W.kia_one PySem.W.kitx_dict I.kIn ⟨o,h1,h2.1⟩ e (fun z=>nomatch z) h
  | @dT a kvs ea =>
    cases (show u = Value.ref a from rx)
    obtain ⟨_,_,xs,_,o,es,ep,h1,h2,_⟩:=(show ObjOk X.prog X.w H s.heap a (.dT kvs) from I.hok a _ ea)
    exact PySem.W.kia_one PySem.W.kitx_dict I.kIn ⟨o,h1,h2.1⟩ e (fun z=>nomatch z) h
  | @ins a C dx fs ea cl ha hn htk hm =>
    cases (show u = Value.ref a from rx)
    obtain ⟨mA, O, _⟩ := ins_get I.hok ea
    obtain ⟨od, J, _⟩ := O.look
    exact PySem.W.kia_one (PySem.W.kitx_own (cl.get _) cl.hd ha hn htk hm) I.kIn J e (fun z=>nomatch z) h
end
end L2
namespace L2
open PySem PySem.Spec PyProof.Rows
structure Room (k : Nat) (A : Around) : Prop where
  hd : A.handled = none
  dp : A.depth + 3 * k + 5 < recursionLimit
  un : A.units + 16 * k + 200 < cLine
theorem Room.mono {j k:Nat} {A:Around} (r:Room k A) (h:j ≤ k):Room j A:=⟨r.hd,by have:=r.dp; omega,by have:=r.un; omega⟩
theorem Room.deeper {k:Nat} {A:Around} (r:Room (k + 1) A) (env:Env):Room k (A.deeper env) :=
  ⟨r.hd,by have:=r.dp; show A.depth + 1 + 3 * k + 5 < _; omega,by have:=r.un; show A.units + 3 + 16 * k + 200 < _; omega⟩
theorem Room.in1 {k:Nat} {A:Around} (r:Room (k + 1) A):Room k A.in1 :=
  ⟨r.hd,by have:=r.dp; show A.depth + 3 * k + 5 < _; omega,by have:=r.un; show A.units + 1 + 16 * k + 200 < _; omega⟩
theorem make_depth {A:Around} {C:Addr} {us:List Value} {kw:List (Str × Value)}:(A.under (.builtin "type.__call__" ⟨.ref C :: us,kw⟩)).depth = A.depth + 1:=by
  first | rfl | simp [Around.under,Code.weight,Code.isCreation,Code.isGuard,Code.isCaller,Code.frames,Code.isFrame,guardIds]
theorem make_units {A:Around} {C:Addr} {us:List Value} {kw:List (Str × Value)}:(A.under (.builtin "type.__call__" ⟨.ref C :: us,kw⟩)).units = A.units + 1:=by
  first | rfl | simp [Around.under,Code.cUnits,Code.frames,Code.isFrame]
theorem Room.make {k:Nat} {A:Around} (r:Room (k + 1) A) (C:Addr) (us:List Value) (kw:List (Str × Value)):Room k (A.under (.builtin "type.__call__" ⟨.ref C :: us,kw⟩)) :=
  ⟨r.hd,by have:=r.dp; rw [make_depth]; omega,by have:=r.un; rw [make_units]; omega⟩
theorem Room.depth {k:Nat} {A:Around} (r:Room k A):A.depth < recursionLimit:=by have:=r.dp; omega
theorem Room.units {k:Nat} {A:Around} (r:Room k A):A.units + 64 < cLine:=by have:=r.un; omega
def tNil : TA := fun _ H Q => Q [] H
def tCons (ta:TE) (tr:TA):TA:=fun σ H Q=>ta σ H fun x H1=>tr σ H1 fun xs H2=>Q (x :: xs) H2
section
variable {X:Cx} {e:Expr} {es:List Expr} {te:TE} {t:TA} {pos:Pos}
theorem pa_nil:PA X [] tNil:=fun _ _ _ _ H Q I h=>Calls.spliced_nil ⟨[],H,I,.nil,h⟩
theorem pa_cons (ha:PE X e te) (hr:PA X es t) (hs:starEach (e :: es) X.env = (false,eval e X.env) :: starEach es X.env:=by rfl):PA X (e :: es) (tCons te t):=by
  intro pos pins s σ H Q I h
  rw [hs]
  show wpAny _ _ (spliced ((false,eval e X.env) :: backTo pos (starEach es X.env))) _ _ s
  refine Calls.spliced_cons (thn (ha pins s σ H _ I h) fun u s1 ⟨x,H1,I1,r1,q1⟩=>?_)
  exact thn (hr pos pins s1 σ H1 _ I1 q1) fun us s2 ⟨xs,H2,I2,r2,q2⟩=>⟨x :: xs,H2,I2,.cons r1 r2,q2⟩
def tLst (t:TA):TE:=fun σ H Q=>t σ H fun xs H1=>xs.length ≤ sizeLine∧∀ p,H1 p = none→Q (.ref p) (upd H1 p (.lst xs))
theorem pe_lst (h:PA X es t):PE X (.List es pos) (tLst t):=by
  intro pins s σ H Q I hq
  refine wpAny_List_spliced (thn (h pos pins s σ H _ I hq) fun us s1 ⟨xs,H1,I1,r,z,q⟩=>⟨by rw [← r.length]; exact z,?_⟩)
  have hf:H1 s1.heap.objs.size = none:=I1.hok.fresh (Nat.le_refl _)
  refine ⟨.ref s1.heap.objs.size,upd H1 s1.heap.objs.size (.lst xs),I1.laid (t':=s1.toks) (fun b u e=>Heap.get?_push_of_some _ e) (Nat.le_refl _) ?_,rfl,q _ hf⟩
  exact ⟨z, us, 0, r, Heap.get?_push_size _ rfl⟩
end
abbrev Sp := List V → Hp → VK → XK → Prop
abbrev CXT:=List Env→Hp→Shared→XK→Value→Shared→Prop
structure Env0 (P:Program) (w:World) (K:PySem.W.Frag) (mg:Str→Option Value) (base:Heap) (A:Around) (outer:List Env) (s:Shared) (H:Hp):Prop where
  frames : A.frames = some outer
  mod : Mod K mg base
  bs:∀ b o,base.get? b = some o→s.heap.get? b = some o∧H b = none
  bsz : base.objs.size ≤ s.heap.objs.size
  funs : s.heap.FunFrames base outer
  frf : ∀ b ∈ frs outer, H b = none
  hok : HOk P w H s.heap
  bare : AllBare s.gens
def CE (outer:List Env) (P:Program) (w:World) (H:Hp) (s:Shared) (Q:VK) (u:Value) (s':Shared):Prop :=
  ∃ v H',s'.os = s.os∧AllBare s'.gens∧Un (frs outer) [] H H' s.heap s'.heap∧HOk P w H' s'.heap∧RelV v u∧Q v H'
def CR (CX:CXT) (outer:List Env) (P:Program) (w:World) (H:Hp) (s:Shared) (Q:VK) (E:XK) (r:Result) (s':Shared):Prop :=
  match r with
  | .ok (.ret u) => CE outer P w H s Q u s'
  | .ok _ => False
  | .error e => CX outer H s E e s'
structure FnOk (P:Program) (w:World) (K:PySem.W.Frag) (mg:Str→Option Value) (base:Heap) (CX:CXT) (k:Nat) (f:Addr) (fd:FuncData) (ps:List Str) (sp:Sp):Prop where
  len : ∀ vs H Q E, sp vs H Q E → vs.length = ps.length
  run:∀ (A:Around) (outer:List Env) (s:Shared) (H:Hp) (args:Args) (us:List Value) (vs:List V) (Q:VK) (E:XK),Room k A→Env0 P w K mg base A outer s H→BindsTo s fd args (ps.zip us)→Vals vs us→sp vs H Q E →
    codeAny (model P w) A (.call (.ref f) args) (CR CX outer P w H s Q E) s
theorem FnOk.mono {P:Program} {w:World} {K:PySem.W.Frag} {mg:Str→Option Value} {base:Heap} {CX:CXT} {j k:Nat} {f:Addr} {fd:FuncData} {ps:List Str} {sp:Sp} (F:FnOk P w K mg base CX j f fd ps sp) (h:j ≤ k) :
    FnOk P w K mg base CX k f fd ps sp:=⟨F.len,fun A outer s H args us vs Q E hr=>F.run A outer s H args us vs Q E (hr.mono h)⟩
theorem Env0.make {P:Program} {w:World} {K:PySem.W.Frag} {mg:Str→Option Value} {base:Heap} {A:Around} {outer:List Env} {s:Shared} {H:Hp} (e:Env0 P w K mg base A outer s H) (C:Addr) (us:List Value) (kw:List (Str × Value)) :
    Env0 P w K mg base (A.under (.builtin "type.__call__" ⟨.ref C :: us,kw⟩)) outer s H:=⟨by first | exact e.frames | (simpa [Around.under,Code.envs,Code.isFrame,pushEnvs] using e.frames),e.mod,e.bs,e.bsz,e.funs,e.frf,e.hok,e.bare⟩
section
variable {X:Cx} {pins:List (Addr × Obj)} {σ:St} {H:Hp} {s s':Shared}
theorem Inv.env0 (I:Inv X pins σ H s):Env0 X.prog X.w X.K X.mg X.base X.A X.stack s H :=
  ⟨I.ok.frames,I.ok.mod,I.bs,Nat.le_trans I.ok.bsz I.sz,I.stack,I.stkFree,I.hok,I.bare⟩
theorem Inv.after {Q:VK} {u:Value} (I:Inv X pins σ H s) (h:CE X.stack X.prog X.w H s Q u s'):EP X pins σ Q u s':=by
  obtain ⟨v, H', os, bare, un, hok, r, q⟩ := h
  obtain ⟨hh, g, d, t, os'⟩ := s'
  obtain rfl : os' = s.os := os
  exact ⟨v,H',I.call (h':=hh) (g':=g) (d':=d) (t':=t) (ch:=[]) un hok bare (fun b z=>absurd z (by simp)),r,q⟩
end
def tCall (sp:Sp) (dvs:List V) (E:XK) (t:TA):TE:=fun σ H Q=>t σ H fun vs H1=>sp (vs ++ dvs) H1 Q E
def tMake (C:Addr) (sp:Sp) (dvs:List V) (E:XK) (t:TA):TE:=fun σ H Q=>t σ H fun vs H1=>∀ x dx,H1 x = none→H1 dx = none→dx ≠ x →
  sp (.ref x :: (vs ++ dvs)) (upd (upd H1 dx (.own x)) x (.ins C dx [])) (fun v H2=>v = .non∧Q (.ref x) H2) E
def Binds (K:PySem.W.Frag) (fd:FuncData) (ps:List Str) (ds:List Value):Prop :=
  ∀ (s:Shared) (us:List Value),K.In s.heap→(us ++ ds).length = ps.length→BindsTo s fd ⟨us,[]⟩ (ps.zip (us ++ ds))
theorem Binds.all {K:PySem.W.Frag} {fd:FuncData} {ps:List Str} (h:∀ us:List Value,us.length = ps.length→bindArgs fd ⟨us,[]⟩ = pure (ps.zip us)):Binds K fd ps []:=fun s us _ hl=>by
  rw [List.append_nil] at hl ⊢
  exact .of_eq (h us hl)
def Passes (CX:CXT) (X:Cx) (E:XK):Prop:=∀ (pins:List (Addr × Obj)) (σ:St) (H:Hp) (s:Shared) (e:Value) (s':Shared),Inv X pins σ H s→CX X.stack H s E e s'→X.xe e s'
section
variable {X:Cx} {CX:CXT} {k:Nat} {f C:Addr} {fd:FuncData} {ps:List Str} {sp:Sp} {dvs:List V} {ds:List Value} {E:XK} {x m:Str} {p pos apos:Pos} {e o:Expr} {es:List Expr} {ta:TE} {t:TA}
theorem run_fn {pins:List (Addr × Obj)} {σ:St} {H:Hp} {s:Shared} {Q:VK} {us:List Value} {vs:List V} (F:FnOk X.prog X.w X.K X.mg X.base CX k f fd ps sp) (hr:Room k X.A) (hb:Binds X.K fd ps ds) (hd:Vals dvs ds) (hx:Passes CX X E)
    (I:Inv X pins σ H s) (r:Vals vs us) (h:sp (vs ++ dvs) H Q E):wpAny (model X.prog X.w) X.A (call (.ref f) us) (EP X pins σ Q) X.xe s:=by
  have r2 : Vals (vs ++ dvs) (us ++ ds) := r.append hd
  have hl:(us ++ ds).length = ps.length:=by rw [← r2.length]; exact F.len _ _ _ _ h
  refine wpAny_call (codeAny_mono (F.run X.A X.stack s H ⟨us,[]⟩ (us ++ ds) (vs ++ dvs) Q E hr I.env0 (hb s us I.kIn hl) r2 h) fun r s' hq=>?_)
  cases r with
  | error e => exact hx pins σ H s e s' I hq
  | ok fl =>
    cases fl with
    | ret u => exact I.after hq
    | next => exact False.elim hq
    | brk => exact False.elim hq
    | cont => exact False.elim hq
theorem pe_call (F:FnOk X.prog X.w X.K X.mg X.base CX k f fd ps sp) (hr:Room k X.A) (hg:Gl X x) (hm:X.mg x = some (.ref f)) (hk:PySem.W.keepIn X.K (.ref f) = true) (hb:Binds X.K fd ps ds) (hd:Vals dvs ds) (hx:Passes CX X E)
    (ha:PA X (e :: es) t) (hdb:(x == ("__debug__":Str)) = false:=by decide) (he:starEach (e :: es) X.env = (false,eval e X.env) :: starEach es X.env:=by rfl) (hpl:(backTo pos (starEach es X.env)).any (·.1) = false:=by rfl) :
    PE X (.Call (.Name x p) (e :: es) [] pos) (tCall sp dvs E t):=by
  intro pins s σ H Q I h
  refine wpAny_Call_Name_kw (ld_glob I hg hm ?_ hdb)
  refine PySem.W.callWith_K (h₀:=X.base) I.ok.mod.kin hk (thn (ha pos pins s σ H _ I h) fun us s1 ⟨vs,H1,I1,r,q⟩=>⟨I1.kIn,?_⟩) he hpl
  exact run_fn F hr hb hd hx I1 r q
structure Mk (K : PySem.W.Frag) (C f : Addr) : Prop where
  makes : PySem.W.makesIn K C = true
  init:PySem.W.findIn K (.ref C) "__init__" = some (some (.ref f))
  fn : PySem.W.isFn K (.ref f) = true
  kp : PySem.W.keepIn K (.ref C) = true
theorem run_make {pins:List (Addr × Obj)} {σ:St} {H:Hp} {s:Shared} {Q:VK} {us:List Value} {vs:List V} (M:Mk X.K C f) (F:FnOk X.prog X.w X.K X.mg X.base CX k f fd ps sp) (hr:Room (k + 1) X.A) (hb:Binds X.K fd ps ds) (hd:Vals dvs ds)
    (hx:Passes CX X E) (I:Inv X pins σ H s) (r:Vals vs us)
    (h:∀ x dx,H x = none→H dx = none→dx ≠ x→sp (.ref x :: (vs ++ dvs)) (upd (upd H dx (.own x)) x (.ins C dx [])) (fun v H2=>v = .non∧Q (.ref x) H2) E) :
    wpAny (model X.prog X.w) X.A (call (.ref C) us) (EP X pins σ Q) X.xe s:=by
  have hq:=h (s.heap.objs.size + 1) s.heap.objs.size (I.hok.fresh (Nat.le_succ _)) (I.hok.fresh (Nat.le_refl _)) (Nat.ne_of_lt (Nat.lt_succ_self _))
  have I2 := Inv.made (C := C) I
  have r2:Vals (V.ref (s.heap.objs.size + 1) :: (vs ++ dvs)) (Value.ref (s.heap.objs.size + 1) :: (us ++ ds)):=.cons rfl (r.append hd)
  have hl:(Value.ref (s.heap.objs.size + 1) :: us ++ ds).length = ps.length:=by
    have e := r2.length
    rw [F.len _ _ _ _ hq] at e
    exact e.symm
  refine wpAny_call (make_map (f:=f) I.kIn M.makes M.init (beq_iff_eq.mp M.fn) (codeAny_mono (F.run _ X.stack _ _ ⟨Value.ref (s.heap.objs.size + 1) :: us,[]⟩ (Value.ref (s.heap.objs.size + 1) :: (us ++ ds)) _ _ E (hr.make C us [])
    (I2.env0.make C us []) (hb _ (Value.ref (s.heap.objs.size + 1) :: us) I2.kIn hl) r2 hq) fun r s' hq'=>?_))
  cases r with
  | error e => exact hx pins σ _ _ e s' I2 hq'
  | ok fl =>
    cases fl with
    | ret u =>
      obtain ⟨v, H', I3, rv, ev, q3⟩ := I2.after hq'
      subst ev
      exact ⟨rv,⟨V.ref (s.heap.objs.size + 1),H',I3,rfl,q3⟩⟩
    | next => exact False.elim hq'
    | brk => exact False.elim hq'
    | cont => exact False.elim hq'
theorem pe_make (M:Mk X.K C f) (F:FnOk X.prog X.w X.K X.mg X.base CX k f fd ps sp) (hr:Room (k + 1) X.A) (hg:Gl X x) (hm:X.mg x = some (.ref C)) (hb:Binds X.K fd ps ds) (hd:Vals dvs ds) (hx:Passes CX X E)
    (ha:PA X (e :: es) t) (hdb:(x == ("__debug__":Str)) = false:=by decide) (he:starEach (e :: es) X.env = (false,eval e X.env) :: starEach es X.env:=by rfl) (hpl:(backTo pos (starEach es X.env)).any (·.1) = false:=by rfl) :
    PE X (.Call (.Name x p) (e :: es) [] pos) (tMake C sp dvs E t):=by
  intro pins s σ H Q I h
  refine wpAny_Call_Name_kw (ld_glob I hg hm ?_ hdb)
  refine PySem.W.callWith_K (h₀:=X.base) I.ok.mod.kin M.kp (thn (ha pos pins s σ H _ I h) fun us s1 ⟨vs,H1,I1,r,q⟩=>⟨I1.kIn,?_⟩) he hpl
  exact run_make M F hr hb hd hx I1 r q
end
section
variable {X:Cx} {CX:CXT} {k:Nat} {f C:Addr} {fd:FuncData} {ps ks:List Str} {sp:Sp} {E:XK} {x m:Str} {p pos apos kpos:Pos} {e o:Expr} {es:List Expr} {kws:List Keyword} {te ta:TE} {t tk:TA} {nm:Option Str}
structure KBinds (K:PySem.W.Frag) (fd:FuncData) (ps ks:List Str) (g:List Value→List Value→List Value) (gV:List V→List V→List V):Prop where
  to:∀ (s:Shared) (us ws:List Value),K.In s.heap→(g us ws).length = ps.length→BindsTo s fd ⟨us,ks.zip ws⟩ (ps.zip (g us ws))
  rel:∀ {vs:List V} {us:List Value} {zs:List V} {ws:List Value},Vals vs us→Vals zs ws→Vals (gV vs zs) (g us ws)
variable {g:List Value→List Value→List Value} {gV:List V→List V→List V}
end
structure FnScope (N P : List Str) (sc : Scope) : Prop where
  kind : sc.kind = .function
  co : sc.isCoroutine = false
  gen : sc.isGenerator = false
  nd : N.Nodup
  pre : N.take P.length = P
  par:∀ x ∈ P,sc.names.lookup x = some .local ∨ sc.names.lookup x = some .cell
  nofree : ∀ y ∈ sc.names, y.2 ≠ .free
theorem bindL_out {kindOf:Str→Option NameKind} {x:Str}:∀ {binds:List (Str × Value)} {m:Str→Option Value},(∀ v,(x,v) ∉ binds)→bindL kindOf binds m x = m x
  | [], _, _ => rfl
  | (n, v) :: r, m, h => by
    unfold bindL
    rw [bindL_out fun w hw=>h w (List.mem_cons_of_mem _ hw)]
    split
    · have:x ≠ n:=by rintro rfl; exact h v List.mem_cons_self
      simp [this]
    · rfl
theorem bindC_out {kindOf:Str→Option NameKind} {x:Str}:∀ {binds:List (Str × Value)} {m:Str→Option Value},(∀ v,(x,v) ∉ binds)→bindC kindOf binds m x = m x
  | [], _, _ => rfl
  | (n, v) :: r, m, h => by
    unfold bindC
    rw [bindC_out fun w hw=>h w (List.mem_cons_of_mem _ hw)]
    split
    · rfl
    · have:x ≠ n:=by rintro rfl; exact h v List.mem_cons_self
      simp [this]
theorem bindL_get {kindOf:Str→Option NameKind} {x:Str} {v:Value}:∀ {P:List Str} {vs:List Value} {i:Nat} {m:Str→Option Value},P.Nodup→P[i]? = some x→vs[i]? = some v→kindOf x = some .local →
    bindL kindOf (P.zip vs) m x = some v
  | [], _, _, _, _, h, _, _ => by simp at h
  | _ :: _, [], _, _, _, _, h, _ => by simp at h
  | p :: P, w :: vs, 0, m, nd, h1, h2, hk => by
    simp at h1 h2; subst h1; subst h2
    show bindL kindOf ((p, w) :: P.zip vs) m p = _
    unfold bindL
    rw [bindL_out fun v hv=>(List.nodup_cons.mp nd).1 (List.of_mem_zip hv).1,if_pos hk]
    simp
  | p :: P, w :: vs, i + 1, m, nd, h1, h2, hk => by
    show bindL kindOf ((p, w) :: P.zip vs) m x = _
    unfold bindL
    exact bindL_get (i:=i) (List.nodup_cons.mp nd).2 (by simpa using h1) (by simpa using h2) hk
theorem bindC_get {kindOf:Str→Option NameKind} {x:Str} {v:Value}:∀ {P:List Str} {vs:List Value} {i:Nat} {m:Str→Option Value},P.Nodup→P[i]? = some x→vs[i]? = some v→kindOf x ≠ some .local →
    bindC kindOf (P.zip vs) m x = some v
  | [], _, _, _, _, h, _, _ => by simp at h
  | _ :: _, [], _, _, _, _, h, _ => by simp at h
  | p :: P, w :: vs, 0, m, nd, h1, h2, hk => by
    simp at h1 h2; subst h1; subst h2
    show bindC kindOf ((p, w) :: P.zip vs) m p = _
    unfold bindC
    rw [bindC_out fun v hv=>(List.nodup_cons.mp nd).1 (List.of_mem_zip hv).1,if_neg hk]
    simp
  | p :: P, w :: vs, i + 1, m, nd, h1, h2, hk => by
    show bindC kindOf ((p, w) :: P.zip vs) m x = _
    unfold bindC
    exact bindC_get (i:=i) (List.nodup_cons.mp nd).2 (by simpa using h1) (by simpa using h2) hk
def start (N:List Str) (vs:List V):St:=vs.map some ++ List.replicate (N.length - vs.length) none
def cxOf (CX:CXT) (P:Program) (w:World) (K:PySem.W.Frag) (mg:Str→Option Value) (base:Heap) (N:List Str) (qual:Str) (scope:Scope) (f:Addr) (cd:Value) (A:Around) (outer:List Env) (s:Shared) (H:Hp) (E:XK):Cx where
  prog := P
  w := w
  K := K
  mg := mg
  base := base
  A := A.deeper (envOfC qual scope s.heap.objs.size f cd)
  N := N
  s₀ := s
  H₀ := H
  env := envOfC qual scope s.heap.objs.size f cd
  outer := outer
  stack := envOfC qual scope s.heap.objs.size f cd :: outer
  ex := []
  calm := true
  fn := fun _ => true
  pn := []
  xe:=fun e s'=>wpAny (model P w) (A.deeper (envOfC qual scope s.heap.objs.size f cd)) (leaving (envOfC qual scope s.heap.objs.size f cd) e) (fun _ s''=>CX outer H s E e s'') (fun e' s''=>CX outer H s E e' s'') s'
theorem cell_has {sc:Scope} {n:Nat} {x:Str} (h:sc.names.lookup x = some .cell):∃ c,(cellsFrom n sc.names []).lookup x = some c:=by
  have q := PySem.W.cellsFrom_some sc.names n [] (.inl h)
  exact Option.isSome_iff_exists.mp q
theorem inv_start {CX:CXT} {P:Program} {w:World} {K:PySem.W.Frag} {mg:Str→Option Value} {base:Heap} {N ps:List Str} {qual:Str} {scope:Scope} {f:Addr} {cd:Value} {A:Around} {outer:List Env} {s s1:Shared} {H:Hp} {E:XK} {us:List Value} {vs:List V}
    (S:FnScope N ps scope) (hd:A.handled = none) (e0:Env0 P w K mg base A outer s H) (hl:vs.length = ps.length) (r:Vals vs us)
    (x:InCallC s s.heap.objs.size (bindL (envOfC qual scope s.heap.objs.size f cd).kindOf (ps.zip us) fun _=>none) (cellsFrom (s.heap.objs.size + 1) scope.names []) (bindC (envOfC qual scope s.heap.objs.size f cd).kindOf (ps.zip us) fun _=>none) s1) :
    Inv (cxOf CX P w K mg base N qual scope f cd A outer s H E) [] (start N vs) H s1:=by
  have hpl:ps.length ≤ N.length:=by have:=congrArg List.length S.pre; rw [List.length_take] at this; omega
  obtain ⟨h1, tk, rfl, hk⟩ := x.done
  have noA:∀ b:Addr,b ∉ (cxOf CX P w K mg base N qual scope f cd A outer s H E).ex:=fun b z=>absurd (show b ∈ ([]:List Addr) from z) (by simp)
  refine ⟨⟨e0.mod,S.kind,rfl,rfl,Nat.le_refl _,fun y z c h1 h2=>?_,fun y hy=>?_,fun y c _ h=>?_,fun _=>hd,Around.frames_deeper e0.frames,.inr ⟨rfl,rfl⟩,fun b z=>absurd z (noA b),e0.bs,e0.bsz,fun b _ _=>noA b,fun b z=>absurd z (noA b),e0.funs,e0.frf⟩,
    rfl,e0.bare,Un.kept hk,⟨_,x.toInCall.ns,fun i y v h1 h2 h3=>?_⟩,fun y c h=>⟨_,x.cell y c h⟩,e0.hok.fresh (Nat.le_refl _),fun y c h=>?_,fun p hp=>absurd (show p ∈ ([]:List (Addr × Obj)) from hp) (by simp),e0.hok.kept hk,?_⟩
  · exact name_of_addr x.apart (PySem.mem_of_lookup h1) (PySem.mem_of_lookup h2)
  · have hy:scope.names.lookup y = some .cell ∨ scope.names.lookup y = some .free:=hy
    rcases hy with hy | hy
    · exact cell_has hy
    · exact absurd rfl (S.nofree _ (PySem.mem_of_lookup hy))
  · exact Nat.le_of_lt (x.above y c (PySem.mem_of_lookup h))
  · have hi : i < vs.length := by
      unfold start at h2
      by_cases hi : i < vs.length
      · exact hi
      · rw [List.getElem?_append_right (by simpa using hi)] at h2
        rw [List.getElem?_replicate] at h2
        split at h2 <;> cases h2
    have ha : vs[i]? = some v := by
      unfold start at h2
      rw [List.getElem?_append_left (by simpa using hi),List.getElem?_map] at h2
      cases e : vs[i]? with
      | none => rw [e] at h2; cases h2
      | some a => rw [e] at h2; cases h2; rfl
    obtain ⟨u, hu, rv⟩ := r.get ha
    have hp : ps[i]? = some y := by
      rw [← S.pre,List.getElem?_take_of_lt (by omega)]; exact h1
    have ndP:ps.Nodup:=by rw [← S.pre]; exact S.nd.sublist (List.take_sublist _ _)
    refine ⟨u, rv, ?_⟩
    rcases S.par y (List.mem_of_getElem? hp) with k | k
    · exact .inl ⟨k, bindL_get ndP hp hu k⟩
    · obtain ⟨c,e⟩:=cell_has (n:=s.heap.objs.size + 1) k
      refine .inr ⟨.inl k, c, e, ?_⟩
      have q := x.cell y c e
      rw [bindC_get ndP hp hu (by show scope.names.lookup y ≠ _; rw [k]; decide)] at q
      exact q
  · exact e0.hok.fresh (Nat.le_of_lt (x.above y c (PySem.mem_of_lookup h)))
  · unfold start
    show _ = N.length
    rw [List.length_append,List.length_map,List.length_replicate]
    omega
theorem fn_of {CX:CXT} {P:Program} {w:World} {K:PySem.W.Frag} {mg:Str→Option Value} {base:Heap} {k:Nat} {f:Addr} {name qual:Str} {params:Arguments} {body:List Stmt} {scope:Scope} {dV kV doc pm cdv ct oc:Value} {an od:Option Addr}
    {osl:Array (Option Value)} {N ps:List Str} {sp:Sp} (lk:K.lookup f = some ⟨oc,od,.func (PySem.W.fnOf name qual params body scope dV kV doc pm an cdv ct),osl⟩) (hcd:PySem.W.codeIn K cdv qual = true) (S:FnScope N ps scope)
    (len : ∀ vs H Q E, sp vs H Q E → vs.length = ps.length)
    (hbody:∀ (A:Around) (outer:List Env) (s:Shared) (H:Hp) (vs:List V) (Q:VK) (E:XK),Room k (A.deeper (envOfC qual scope s.heap.objs.size f cdv))→sp vs H Q E →
      ∃ t,PSs (cxOf CX P w K mg base N qual scope f cdv A outer s H E) body t∧t { nx:=fun _ H'=>Q .non H',rt:=Q } (start N vs) H) :
    FnOk P w K mg base CX (k + 1) f (PySem.W.fnOf name qual params body scope dV kV doc pm an cdv ct) ps sp:=by
  refine ⟨len,fun A outer s H args us vs Q E hr e0 hb r hsp=>?_⟩
  have hl := len _ _ _ _ hsp
  have KX:K.In s.heap:=e0.mod.kin.keeps fun b o e=>(e0.bs b o e).1
  have lim:s.heap.NoLimit:=e0.mod.nolimit.keeps fun b o e=>(e0.bs b o e).1
  have hkind:∀ y ∈ ps.zip us,scope.names.lookup y.1 = some .local ∨ (scope.names.lookup y.1 = some .cell∧((cellsFrom (s.heap.objs.size + 1) scope.names []).lookup y.1).isSome = true):=fun ⟨n,v⟩ hy=>by
    rcases S.par n (List.of_mem_zip hy).1 with q | q
    · exact .inl q
    · exact .inr ⟨q, PySem.W.cellsFrom_some _ _ _ (.inl q)⟩
  refine codeAny_call_function hr.depth (KX _ _ lk) rfl S.co S.gen rfl (PySem.W.codeRec_of KX hcd) (hb _ _ _ _ ?_)
  refine wpAny_newFunctionEnv_cells S.kind hkind fun env he s1 x=>?_
  subst he
  refine ⟨lim.keeps x.toInCall.keep, codeAny_func ?_⟩
  obtain ⟨t,ht,hq⟩:=hbody A outer s H vs Q E (hr.deeper _) hsp
  have I:Inv (cxOf CX P w K mg base N qual scope f cdv A outer s H E) [] (start N vs) H s1:=inv_start S hr.hd e0 hl r x
  refine wpAny_mono (ht [] s1 (start N vs) H _ I hq) (fun fl s' hs=>?_) fun e s' hs=>hs
  have fin:∀ {σ':St} {H':Hp} {v:V} {u:Value},Inv (cxOf CX P w K mg base N qual scope f cdv A outer s H E) [] σ' H' s'→RelV v u→Q v H'→CE outer P w H s Q u s' :=
    fun {σ' H' v u} J rv q=>⟨v,H',J.os,J.bare,J.base,J.hok,rv,q⟩
  cases fl with
  | ret u =>
    obtain ⟨v, σ', H', J, rv, q⟩ := hs
    exact fin J rv q
  | next =>
    obtain ⟨σ', H', J, q⟩ := hs
    exact fin (v := V.non) (u := Value.none) J rfl q
  | brk =>
    obtain ⟨_, _, _, q⟩ := hs
    exact False.elim q
  | cont =>
    obtain ⟨_, _, _, q⟩ := hs
    exact False.elim q
end L2
namespace L2
open PySem PySem.Spec PyProof.Rows
section
variable {X:Cx} {x:Str} {p pos:Pos} {e:Expr} {es:List Expr} {t:TA} {id T:String} {r:List V→Hp→VK→Prop}
def tCB (r:List V→Hp→VK→Prop) (t:TA):TE:=fun σ H Q=>t σ H fun vs H1=>r vs H1 Q
theorem pe_callB (hc:CallR X (.builtin id) r) (hg:Gl X x) (hm:X.mg x = none) (hv:bootBuiltins x = some (.builtin id)) (ha:PA X (e :: es) t) (hn:x ≠ "__name__":=by decide) (hdb:(x == ("__debug__":Str)) = false:=by decide)
    (he:starEach (e :: es) X.env = (false,eval e X.env) :: starEach es X.env:=by rfl) (hpl:(backTo pos (starEach es X.env)).any (·.1) = false:=by rfl):PE X (.Call (.Name x p) (e :: es) [] pos) (tCB r t):=by
  intro pins s σ H Q I h
  refine wpAny_Call_Name_kw (ld_blt I hg hm hv ?_ hn hdb)
  exact PyProof.Rows.callWith_builtin1 (thn (ha pos pins s σ H _ I h) fun us s1 ⟨vs,H1,I1,r1,q1⟩=>hc pins s1 σ H1 vs us Q I1 r1 q1) he hpl
theorem pe_callTy (hc:CallR X (.type T) r) (hg:Gl X x) (hm:X.mg x = none) (hv:bootBuiltins x = some (.type T)) (ha:PA X (e :: es) t) (hn:x ≠ "__name__":=by decide) (hdb:(x == ("__debug__":Str)) = false:=by decide)
    (he:starEach (e :: es) X.env = (false,eval e X.env) :: starEach es X.env:=by rfl) (hpl:(backTo pos (starEach es X.env)).any (·.1) = false:=by rfl):PE X (.Call (.Name x p) (e :: es) [] pos) (tCB r t):=by
  intro pins s σ H Q I h
  refine wpAny_Call_Name_kw (ld_blt I hg hm hv ?_ hn hdb)
  exact PyProof.Rows.callWith_type1 (thn (ha pos pins s σ H _ I h) fun us s1 ⟨vs,H1,I1,r1,q1⟩=>hc pins s1 σ H1 vs us Q I1 r1 q1) he hpl
end
end L2
namespace HT
open PySem PyProof.Rows
section
open PySem.SeqAt
open PySem.AutoSeq1 (wpAny_loadPart')
open PySem.MeetsSeq PySem.MeetsSeq2 PySem.MeetsSeq3
end
section
variable {prog:Program} {w:World} {A:Around} {E:Value→Shared→Prop} {s:Shared}
def sIx (n d : Nat) : Option Int → Nat
  | none => d
  | some v=>if v < 0 then (v + (n:Int)).toNat else min v.toNat n
theorem sIx_none (n d : Nat) : sIx n d none = d := rfl
theorem sIx_nat (n d k:Nat):sIx n d (some (k:Int)) = min k n:=by
  show (if (k:Int) < 0 then ((k:Int) + (n:Int)).toNat else min (k:Int).toNat n) = min k n
  rw [if_neg (by omega), Int.toNat_natCast]
theorem sIx_le (n d:Nat) (hd:d ≤ n) (o:Option Int):sIx n d o ≤ n:=by
  cases o with
  | none => exact hd
  | some v =>
    show (if v < 0 then (v + (n:Int)).toNat else min v.toNat n) ≤ n
    by_cases hv : v < 0
    · rw [if_pos hv]; omega
    · rw [if_neg hv]; exact Nat.min_le_right _ _
theorem clip_eq (v:Int) (n d:Nat):(if v < 0 then max (v + (n:Int)) 0 else min v (n:Int)) = ((sIx n d (some v):Nat):Int):=by
  show (if v < 0 then max (v + (n:Int)) 0 else min v (n:Int)) = (((if v < 0 then (v + (n:Int)).toNat else min v.toNat n):Nat):Int)
  by_cases hv : v < 0
  · simp only [if_pos hv]; omega
  · simp only [if_neg hv]; omega
theorem adjust_gen (lo hi:Option Int) (n:Nat):Builtin.Slice.sliceAdjust lo hi 1 (n:Int) = (((sIx n 0 lo:Nat):Int),((sIx n n hi:Nat):Int)):=by
  have h1 : ¬ ((1 : Int) < 0) := by omega
  unfold Builtin.Slice.sliceAdjust
  simp only [h1, if_false]
  refine Prod.ext ?_ ?_
  · cases lo with
    | none => rfl
    | some v => exact clip_eq v n 0
  · cases hi with
    | none => rfl
    | some v => exact clip_eq v n n
theorem places_gen (i j:Nat):Builtin.Slice.slicePlaces (i:Int) (j:Int) 1 = j - i:=by
  unfold Builtin.Slice.slicePlaces
  have h1 : (1 : Int) > 0 := by omega
  simp only [h1, if_true, Int.ediv_one]
  split <;> omega
theorem slicePart_ {v:Value} {o:Option Int} {Q:Option Int→Shared→Prop} (p:IsPart v o) (h:Q o s):wpAny (model prog w) A (Builtin.Slice.slicePartIndex v) Q E s:=by
  cases p with
  | none => exact slicePart_none h
  | int i t => exact slicePart_int h
theorem sliceApplied_gen {sl:Addr} {vl vu:Value} {lo hi:Option Int} {n:Nat} {Q:Int × Int × Nat→Shared→Prop} (hs:s.heap.IsSliceOf sl vl vu .none) (pl:IsPart vl lo) (pu:IsPart vu hi)
    (h:Q (((sIx n 0 lo:Nat):Int),1,sIx n n hi - sIx n 0 lo) s):wpAny (model prog w) A (Builtin.Slice.sliceApplied (.ref sl) (pure (n:Int))) Q E s:=by
  obtain ⟨os, hos, hcs, hds⟩ := id hs
  unfold Builtin.Slice.sliceApplied Builtin.Slice.sliceFields
  refine wpAny_bind (wpAny_bind (wpAny_field hos hds (x:=vl) rfl (wpAny_bind (wpAny_field hos hds (x:=vu) rfl (wpAny_bind (wpAny_field hos hds (x:=.none) rfl (wpAny_pure ?_)))))))
  refine wpAny_bind (slicePart_none ?_)
  show wpAny _ _ (if ((1:Int) == 0) = true then _ else _) _ _ s
  rw [if_neg (by decide)]
  refine wpAny_bind (slicePart_ pl (wpAny_bind (slicePart_ pu (wpAny_bind (wpAny_pure ?_)))))
  show wpAny _ _ (match Builtin.Slice.sliceAdjust lo hi 1 (n:Int) with | (lo,hi)=>pure (lo,(1:Int),Builtin.Slice.slicePlaces lo hi 1)) _ _ s
  rw [adjust_gen lo hi n]
  show wpAny _ _ (pure (((sIx n 0 lo:Nat):Int),(1:Int),Builtin.Slice.slicePlaces ((sIx n 0 lo:Nat):Int) ((sIx n n hi:Nat):Int) 1)) _ _ s
  rw [places_gen]
  exact wpAny_pure h
theorem pick_gen (xs:Array Value) (i k:Nat):((List.range k).filterMap fun (m:Nat)=>xs[((i:Int) + (m:Int) * 1).toNat]?).toArray = ((xs.toList.drop i).take k).toArray:=by
  have e:(fun (m:Nat)=>xs[((i:Int) + (m:Int) * 1).toNat]?) = fun m=>xs[i + m]?:=by
    funext m
    have:((i:Int) + (m:Int) * 1).toNat = i + m:=by omega
    rw [this]
  rw [e]
  have := pick_run xs i k
  rw [List.filterMap_map] at this
  have e2:((fun x=>xs[x]?) ∘ fun x=>i + x) = fun m=>xs[i + m]?:=rfl
  rw [e2] at this
  rw [this]
theorem getItem_tuple_cut {t sl:Addr} {items:Array Value} {vl vu:Value} {lo hi:Option Int} {Q:Value→Shared→Prop} (ht:IsTup s.heap t items) (hs:s.heap.IsSliceOf sl vl vu .none) (pl:IsPart vl lo) (pu:IsPart vu hi)
    (hw:¬ (sIx items.size 0 lo = 0∧sIx items.size items.size hi = items.size))
    (h:Q (.ref s.heap.objs.size) { s with heap:=s.heap.push { cls:=.type "tuple",data:=.seq ((items.toList.drop (sIx items.size 0 lo)).take (sIx items.size items.size hi - sIx items.size 0 lo)).toArray } })
    (hsz:items.size ≤ sizeLine):wpAny (model prog w) A (getItem (.ref t) (.ref sl)) Q E s:=by
  have htake:sizeOk (.seq ((items.toList.drop (sIx items.size 0 lo)).take (sIx items.size items.size hi - sIx items.size 0 lo)).toArray):=by
    show ((items.toList.drop (sIx items.size 0 lo)).take (sIx items.size items.size hi - sIx items.size 0 lo)).toArray.size ≤ sizeLine
    rw [List.size_toArray,List.length_take,List.length_drop,Array.length_toList]
    omega
  have hj:sIx items.size items.size hi ≤ items.size:=sIx_le _ _ (Nat.le_refl _) hi
  obtain ⟨os, hos, hcs, hds⟩ := id hs
  have hTs : s.TypeIs (.ref sl) "slice" := ⟨os, hos, hcs⟩
  unfold getItem
  try with_reducible refine wpAny_holding ?_
  first | refine wpAny_bind (wpAny_pure ?_) | skip
  refine wpAny_bind (wpAny_sequenceKey ht.typeIs (by decide) ?_)
  refine wpAny_bind (wpAny_callSpecial?_slot (name:=Str.ofString "__getitem__") ht.typeIs PyProof.Rows.slot_tuple_getitem
    (wpAny_call_entry PyProof.Rows.slot_tuple_getitem ht.typeIs entry_tuple_getitem ?_ (args_tuple_getitem _ _)))
  show wpAny _ _ (Builtin.Tuple.tupleItemsOf (.ref t) >>= _) _ _ s
  refine wpAny_bind (tupleItemsOf_ ht ?_)
  refine wpAny_bind (wpAny_typeOf hTs ?_)
  rw [if_pos (by decide)]
  refine wpAny_bind (sliceApplied_gen hs pl pu ?_)
  have hno:¬ ((((sIx items.size 0 lo:Nat):Int) == 0 && (1:Int) == 1 && (sIx items.size items.size hi - sIx items.size 0 lo) == items.size) = true):=by
    intro q
    rw [Bool.and_eq_true, Bool.and_eq_true] at q
    have q1:((sIx items.size 0 lo:Nat):Int) = 0:=eq_of_beq q.1.1
    have q2:sIx items.size items.size hi - sIx items.size 0 lo = items.size:=eq_of_beq q.2
    exact hw ⟨by omega, by omega⟩
  show wpAny _ _ (if (((sIx items.size 0 lo:Nat):Int) == 0 && (1:Int) == 1 && (sIx items.size items.size hi - sIx items.size 0 lo) == items.size) = true then _ else _) _ _ s
  rw [if_neg hno, pick_gen]
  first
    | exact wpAny_bind (m:=Builtin.Tuple.tupleExact _) (wpAny_newObj_type (wpAny_pure ⟨_,rfl,wpAny_pure h⟩) htake)
    | exact wpAny_bind (m:=Builtin.Tuple.tupleExact _) (wpAny_newObj_type (wpAny_bind (wpAny_pure (wpAny_pure ⟨_,rfl,wpAny_pure h⟩))) htake)
    | exact wpAny_bind (wpAny_bind (m:=Builtin.Tuple.tupleExact _) (wpAny_newObj_type (wpAny_pure (wpAny_pure ⟨_,rfl,wpAny_pure h⟩)) htake))
    | exact wpAny_bind (wpAny_bind (m:=Builtin.Tuple.tupleExact _) (wpAny_newObj_type (wpAny_pure ⟨_,rfl,wpAny_pure h⟩) htake))
end
end HT
namespace L2
open PySem PySem.Spec PyProof.Rows
abbrev TO := St → Hp → (Option Int → Hp → Prop) → Prop
def PO (X : Cx) (e : Option Expr) (t : TO) : Prop :=
  ∀ (pins:List (Addr × Obj)) (s:Shared) (σ:St) (H:Hp) (Q:Option Int→Hp→Prop),Inv X pins σ H s→t σ H Q →
    wpAny (model X.prog X.w) X.A (evalPart e X.env) (fun u s'=>∃ o H',Inv X pins σ H' s'∧IsPart u o∧Q o H') X.xe s
def tNoPart : TO := fun _ H Q => Q none H
def tPart (t:TE):TO:=fun σ H Q=>t σ H fun x H1=>∃ i,x = .int i∧Q (some i) H1
section
variable {X:Cx} {e:Expr} {te:TE} {lo hi:Option Expr} {tl th:TO} {pos p2:Pos}
theorem po_none : PO X none tNoPart := by
  intro pins s σ H Q I h
  rw [evalPart_none]
  exact wpAny_pure ⟨none, H, I, .none, h⟩
theorem po_some (h:PE X e te):PO X (some e) (tPart te):=by
  intro pins s σ H Q I hw
  rw [evalPart_some]
  refine thn (h pins s σ H _ I hw) fun u s1 ⟨x,H1,I1,r1,q1⟩=>?_
  obtain ⟨i, rfl, q⟩ := q1
  obtain ⟨t, rfl⟩ := r1
  exact ⟨some i, H1, I1, .int i t, q⟩
def SlR (X:Cx) (r:V→Option Int→Option Int→Hp→VK→Prop):Prop :=
  ∀ (pins:List (Addr × Obj)) (s:Shared) (σ:St) (H:Hp) (x:V) (v vl vu:Value) (lo hi:Option Int) (sl:Addr) (Q:VK),Inv X pins σ H s→RelV x v→s.heap.IsSliceOf sl vl vu .none→IsPart vl lo→IsPart vu hi→r x lo hi H Q →
    ∃ T id,typeLookup (.type T) "__getitem__" = pure (some (.builtin id))∧s.TypeIs v T∧wpAny (model X.prog X.w) X.A (getItem v (.ref sl)) (EP X pins σ Q) X.xe s
def tSl (r:V→Option Int→Option Int→Hp→VK→Prop) (te:TE) (tl th:TO):TE:=fun σ H Q=>te σ H fun x H1=>tl σ H1 fun l H2=>th σ H2 fun u H3=>r x l u H3 Q
theorem pe_slice {r:V→Option Int→Option Int→Hp→VK→Prop} (hr:SlR X r) (he:PE X e te) (hl:PO X lo tl) (hu:PO X hi th):PE X (.Subscript e (.Slice lo hi none p2) pos) (tSl r te tl th):=by
  intro pins s σ H Q I h
  refine Subscript_ (thn (he pins s σ H _ I h) fun v s1 ⟨x,H1,I1,r1,q1⟩=>?_)
  refine wpAny_Slice (thn (hl pins s1 σ H1 _ I1 q1) fun vl s2 ⟨l,H2,I2,pl,q2⟩=>thn (hu pins s2 σ H2 _ I2 q2) fun vu s3 ⟨u,H3,I3,pu,q3⟩=>?_)
  rw [evalPart_none]
  refine wpAny_pure ?_
  have I4:Inv X pins σ H3 { s3 with heap:=s3.heap.push { cls:=.type "slice",data:=.fields #[vl,vu,.none] } }:=I3.kept (t':=s3.toks) fun b ob q=>Heap.get?_push_of_some _ q
  obtain ⟨T,id,hT,ht,hg⟩:=hr pins { s3 with heap:=s3.heap.push { cls:=.type "slice",data:=.fields #[vl,vu,.none] } } σ H3 x v vl vu l u s3.heap.objs.size Q I4 r1 (Heap.IsSliceOf.new ..) pl pu q3
  show wpAny (model X.prog X.w) X.A (subscriptTail e (.Slice lo hi none p2) v (.ref s3.heap.objs.size)) (EP X pins σ Q) X.xe { s3 with heap:=s3.heap.push { cls:=.type "slice",data:=.fields #[vl,vu,.none] } }
  exact tail_any (ops:=[.ref s3.heap.objs.size,v]) ht hT hg (by with_unfolding_all rfl)
def cutV (xs:List V) (lo hi:Option Int):List V:=(xs.drop (HT.sIx xs.length 0 lo)).take (HT.sIx xs.length xs.length hi - HT.sIx xs.length 0 lo)
theorem cutV_length (xs:List V) (lo hi:Option Int):(cutV xs lo hi).length ≤ xs.length:=by
  unfold cutV
  rw [List.length_take, List.length_drop]
  omega
def rSlT (K:PySem.W.Frag):V→Option Int→Option Int→Hp→VK→Prop:=fun x lo hi H Q=>∃ a xs,x = .ref a∧SqT K H a xs ∧
  ¬ (HT.sIx xs.length 0 lo = 0∧HT.sIx xs.length xs.length hi = xs.length)∧∀ p,H p = none→Q (.ref p) (upd H p (.tup (cutV xs lo hi)))
theorem sl_tup : SlR X (rSlT X.K) := by
  intro pins s σ H x v vl vu lo hi sl Q I rx hs pl pu h
  obtain ⟨a, xs, rfl, hx, hw, q⟩ := h
  cases rx
  obtain ⟨its, r, ht, hz⟩ := I.tuple hx
  have hlen:its.toArray.size = xs.length:=by rw [List.size_toArray]; exact r.length.symm
  refine ⟨"tuple",_,PyProof.Rows.slot_tuple_getitem.lookup,ht.typeIs,?_⟩
  refine HT.getItem_tuple_cut ht hs pl pu (by rw [hlen]; exact hw) ?_ (by rw [hlen]; exact hz)
  rw [hlen]
  refine ⟨.ref s.heap.objs.size,_,I.laid (t':=s.toks) (o:=.tup (cutV xs lo hi)) (fun b ob q=>Heap.get?_push_of_some _ q) (Nat.le_refl _) ?_,rfl,q _ (I.hok.fresh (Nat.le_refl _))⟩
  exact ⟨Nat.le_trans (cutV_length xs lo hi) hz,_,(r.drop (HT.sIx xs.length 0 lo)).take (HT.sIx xs.length xs.length hi - HT.sIx xs.length 0 lo),IsTup.new _ _⟩
end
end L2
namespace L2
open PySem PySem.Spec PyProof.Rows
def ixN (n:Nat) (i:Int):Option Nat:=if 0 ≤ i then (if i < n then some i.toNat else none) else if -(n:Int) ≤ i then some (i + n).toNat else none
def atI {α:Type} (xs:List α) (i:Int):Option α:=(ixN xs.length i).bind fun j=>xs[j]?
theorem ixN_seq {n:Nat} {i:Int} {j:Nat} (h:ixN n i = some j):seqIndex? i n = some j∧j < n∧-(n:Int) ≤ i∧i < n:=by
  unfold ixN at h
  by_cases h0 : 0 ≤ i
  · rw [if_pos h0] at h
    by_cases h1 : i < n
    · rw [if_pos h1] at h
      have e : i.toNat = j := Option.some.inj h
      exact ⟨by rw [seqIndex_of h0 h1,e],by omega,by omega,h1⟩
    · rw [if_neg h1] at h; cases h
  · rw [if_neg h0] at h
    by_cases h1 : -(n : Int) ≤ i
    · rw [if_pos h1] at h
      have e : (i + n).toNat = j := Option.some.inj h
      exact ⟨by rw [seqIndex_neg (by omega) h1,e],by omega,h1,by omega⟩
    · rw [if_neg h1] at h; cases h
theorem atI_get {α:Type} {xs:List α} {i:Int} {v:α} (h:atI xs i = some v):∃ j,seqIndex? i xs.length = some j∧xs[j]? = some v∧j < xs.length∧-(xs.length:Int) ≤ i∧i < xs.length:=by
  unfold atI at h
  cases e : ixN xs.length i with
  | none => rw [e] at h; cases h
  | some j =>
    rw [e] at h
    obtain ⟨h1, h2, h3, h4⟩ := ixN_seq e
    exact ⟨j, h1, h, h2, h3, h4⟩
theorem atI_nat {α:Type} {xs:List α} {j:Nat} {v:α} (h:xs[j]? = some v):atI xs (j:Int) = some v:=by
  have hj:j < xs.length:=(List.getElem?_eq_some_iff.mp h).1
  have e : ixN xs.length (j : Int) = some j := by
    unfold ixN
    rw [if_pos (by omega), if_pos (by omega)]; simp
  unfold atI; rw [e]; exact h
def PlainIx (b:Expr):Prop:=∀ o i,subscripted b false o i = operate [o,i] (getItem o i)
def IxR (X : Cx) (r : R2) : Prop :=
  ∀ (value slice:Expr) (pins:List (Addr × Obj)) (s:Shared) (σ:St) (H:Hp) (x y:V) (v u:Value) (Q:VK),Inv X pins σ H s→RelV x v→RelV y u→r x y H Q →
    subscripted slice false v u = operate [v,u] (getItem v u)→wpAny (model X.prog X.w) X.A (subscriptTail value slice v u) (EP X pins σ Q) X.xe s
def MtR (X:Cx) (id:String) (r:V→List V→Hp→VK→Prop):Prop :=
  ∀ (pins:List (Addr × Obj)) (s:Shared) (σ:St) (H:Hp) (x:V) (xs:List V) (v:Value) (us:List Value) (Q:VK),Inv X pins σ H s→RelV x v→Vals xs us→r x xs H Q →
    wpAny (model X.prog X.w) X.A (call (.builtin id) (v :: us)) (EP X pins σ Q) X.xe s
section
variable {X : Cx} {a b : Expr} {ta tb : TE} {pos : Pos}
theorem pe_ix {r:R2} (hr:IxR X r) (ha:PE X a ta) (hb:PE X b tb) (hs:PlainIx b):PE X (.Subscript a b pos) (tOp r ta tb):=by
  intro pins s σ H Q I h
  exact Subscript_ (binT ha hb I h fun v u s2 x y H2 I2 rx ry q=>hr a b pins s2 σ H2 x y v u Q I2 rx ry q (hs _ _))
def rIxL (K:PySem.W.Frag):R2:=fun x y H Q=>∃ p xs i v,x = .ref p∧y = .int i∧SqL K H p xs∧atI xs i = some v∧Q v H
def rIxT (K:PySem.W.Frag):R2:=fun x y H Q=>∃ p xs i v,x = .ref p∧y = .int i∧SqT K H p xs∧atI xs i = some v∧Q v H
def rIxS:R2:=fun x y H Q=>∃ z i c,x = .str z∧y = .int i∧z.length ≤ sizeLine∧atI z.cps.toList i = some c∧Q (.str ⟨#[c]⟩) H
theorem ix_list : IxR X (rIxL X.K) := by
  intro value slice pins s σ H x y v u Q I rx ry h hs
  obtain ⟨p, xs, i, z, rfl, rfl, hq, he, q⟩ := h
  cases rx
  obtain ⟨t, rfl⟩ := ry
  obtain ⟨its, r, pl, hz⟩ := I.list hq
  obtain ⟨j, h1, h2, h3, h4, h5⟩ := atI_get he
  obtain ⟨w, ew, rw'⟩ := r.get h2
  have hl := r.length
  have hn := line63
  have fin : EP X pins σ Q w s := ⟨z, H, I, rw', q⟩
  by_cases h0 : 0 ≤ i
  · have hj : i.toNat = j := by
      rw [seqIndex_of h0 h5] at h1
      exact Option.some.inj h1
    exact item_listR pl.isList h0 (by omega) (by rw [hj]; simpa using ew) fin hs
  · have hj : (i + (its.toArray.size : Int)).toNat = j := by
      rw [seqIndex_neg (by omega) h4] at h1
      rw [List.size_toArray, ← hl]
      exact Option.some.inj h1
    exact subscriptTail_builtinR (x:=w) pl.isList.typeIs slot_list_getitem.lookup
      (wpAny_getItem_list_neg (Q:=fun r s'=>r = w∧EP X pins σ Q r s') pl.isList (by omega) (by rw [List.size_toArray] <;> omega) (by omega) (by rw [hj]; simpa using ew) ⟨rfl,fin⟩) hs
theorem ix_tup : IxR X (rIxT X.K) := by
  intro value slice pins s σ H x y v u Q I rx ry h hs
  obtain ⟨p, xs, i, z, rfl, rfl, hq, he, q⟩ := h
  cases rx
  obtain ⟨t, rfl⟩ := ry
  obtain ⟨its, r, pl, hz⟩ := I.tuple hq
  obtain ⟨j, h1, h2, h3, h4, h5⟩ := atI_get he
  obtain ⟨w, ew, rw'⟩ := r.get h2
  have hl := r.length
  have hn := line63
  have fin : EP X pins σ Q w s := ⟨z, H, I, rw', q⟩
  exact subscriptTail_builtinR (x:=w) pl.typeIs slot_tuple_getitem.lookup
    (getItem_tuple (j:=j) (Q:=fun r s'=>r = w∧EP X pins σ Q r s') pl (by omega) (by omega) (by rw [List.size_toArray,← hl]; exact h1) (by simpa using ew) ⟨rfl,fin⟩) hs
theorem ix_str : IxR X rIxS := by
  intro value slice pins s σ H x y v u Q I rx ry h hs
  obtain ⟨z, i, c, rfl, rfl, hz, he, q⟩ := h
  obtain ⟨t, rfl⟩ := rx
  obtain ⟨t', rfl⟩ := ry
  obtain ⟨j, h1, h2, h3, h4, h5⟩ := atI_get he
  have hl:z.cps.toList.length = z.length:=by simp [Str.length]
  rw [hl] at h1 h4 h5
  have hn := line63
  exact tail_any (typeIs_str s z t) slot_str_getitem.lookup (getItem_str (c:=c) (by
    have e1:decide (i < -(2 ^ 63:Int)) = false:=decide_eq_false (by omega)
    have e2:decide (i ≥ 2 ^ 63) = false:=decide_eq_false (by omega)
    rw [e1,e2,Bool.or_false]) (by rw [h1]; simpa using h2) ⟨.str ⟨#[c]⟩,H,I.tok _,⟨_,rfl⟩,q⟩) hs
theorem slice_bounds (lo hi:Option Int) (n:Nat):(sliceBounds lo hi none n).1 = ((HT.sIx n 0 lo:Nat):Int)∧(sliceBounds lo hi none n).2.1 = ((HT.sIx n n hi:Nat):Int)∧(sliceBounds lo hi none n).2.2 = 1:=by
  refine ⟨?_, ?_, rfl⟩
  · cases lo with
    | none => simp [sliceBounds, HT.sIx]
    | some i =>
      simp only [sliceBounds,HT.sIx,Option.getD_none,show (1:Int) > 0 by decide,if_true]
      by_cases h : i < 0
      · simp only [h, if_true] <;> omega
      · simp only [h, if_false] <;> omega
  · cases hi with
    | none => simp [sliceBounds, HT.sIx]
    | some i =>
      simp only [sliceBounds,HT.sIx,Option.getD_none,show (1:Int) > 0 by decide,if_true]
      by_cases h : i < 0
      · simp only [h, if_true] <;> omega
      · simp only [h, if_false] <;> omega
theorem slicePick_cut (its:List Value) (lo hi:Option Int):slicePick its.toArray lo hi none = ((its.drop (HT.sIx its.length 0 lo)).take (HT.sIx its.length its.length hi - HT.sIx its.length 0 lo)).toArray:=by
  obtain ⟨h1, h2, h3⟩ := slice_bounds lo hi its.toArray.size
  unfold slicePick
  rw [h1, h2, h3]
  simp only [sliceRange_one,pick_run,List.size_toArray] <;> rfl
def rSlL (K:PySem.W.Frag):V→Option Int→Option Int→Hp→VK→Prop:=fun x lo hi H Q=>∃ a xs,x = .ref a∧SqL K H a xs∧∀ p,H p = none→Q (.ref p) (upd H p (.lst (cutV xs lo hi)))
theorem sl_list : SlR X (rSlL X.K) := by
  intro pins s σ H x v vl vu lo hi sl Q I rx hs pl pu h
  obtain ⟨a, xs, rfl, hx, q⟩ := h
  cases rx
  obtain ⟨its, r, ht, hz⟩ := I.list hx
  have hlen := r.length
  refine ⟨"list",_,slot_list_getitem.lookup,ht.isList.typeIs,?_⟩
  refine wpAny_getItem_list_slice ht.isList hs pl pu .none (by simp) ?_ (by rw [List.size_toArray] <;> omega)
  rw [slicePick_cut, ← hlen]
  refine ⟨.ref s.heap.objs.size,_,I.laid (t':=s.toks) (o:=.lst (cutV xs lo hi)) (fun b ob q=>Heap.get?_push_of_some _ q) (Nat.le_refl _) ?_,rfl,q _ (I.hok.fresh (Nat.le_refl _))⟩
  exact ⟨Nat.le_trans (cutV_length xs lo hi) hz,_,0,(r.drop (HT.sIx xs.length 0 lo)).take (HT.sIx xs.length xs.length hi - HT.sIx xs.length 0 lo),Heap.get?_push_size _ rfl⟩
def flatV : V → Bool
  | .non => true
  | .bl _ => true
  | .int _ => true
  | .str _ => true
  | _ => false
def eqV : V → V → Bool
  | .non, .non => true
  | .bl a, .bl b => a == b
  | .bl a, .int b => (if a then 1 else 0) == b
  | .int a, .bl b => a == (if b then 1 else 0)
  | .int a, .int b => a == b
  | .str a, .str b => a == b
  | _, _ => false
theorem eqAt_V {A:Around} {s:Shared} {y x:V} {u v:Value} (ry:RelV y u) (rx:RelV x v) (fy:flatV y = true) (fx:flatV x = true):SeqAt.EqAt A s u v (eqV y x):=by
  cases y with
  | non =>
    cases ry
    cases x with
    | non => cases rx; exact SeqAt.EqAt.same _
    | bl b => cases rx; exact SeqAt.EqAt.none_bool b
    | int b=>obtain ⟨t,rfl⟩:=rx; exact SeqAt.EqAt.none_int b t
    | str b=>obtain ⟨t,rfl⟩:=rx; exact SeqAt.EqAt.none_str b t
    | _=>exact absurd (show false = true from fx) Bool.false_ne_true
  | bl a =>
    cases ry
    cases x with
    | non => cases rx; exact SeqAt.EqAt.bool_none a
    | bl b => cases rx; exact SeqAt.EqAt.bool_bool a b
    | int b=>obtain ⟨t,rfl⟩:=rx; exact SeqAt.EqAt.bool_int a b t
    | str b=>obtain ⟨t,rfl⟩:=rx; exact SeqAt.EqAt.bool_str a b t
    | _=>exact absurd (show false = true from fx) Bool.false_ne_true
  | int a =>
    obtain ⟨t', rfl⟩ := ry
    cases x with
    | non => cases rx; exact SeqAt.EqAt.int_none a t'
    | bl b => cases rx; exact SeqAt.EqAt.int_bool a t' b
    | int b=>obtain ⟨t,rfl⟩:=rx; exact SeqAt.EqAt.int_int a t' b t
    | str b=>obtain ⟨t,rfl⟩:=rx; exact SeqAt.EqAt.int_str a t' b t
    | _=>exact absurd (show false = true from fx) Bool.false_ne_true
  | str a =>
    obtain ⟨t', rfl⟩ := ry
    cases x with
    | non => cases rx; exact SeqAt.EqAt.str_none a t'
    | bl b => cases rx; exact SeqAt.EqAt.str_bool a t' b
    | int b=>obtain ⟨t,rfl⟩:=rx; exact SeqAt.EqAt.str_int a t' b t
    | str b=>obtain ⟨t,rfl⟩:=rx; exact SeqAt.EqAt.str_str a t' b t
    | _=>exact absurd (show false = true from fx) Bool.false_ne_true
  | _=>exact absurd (show false = true from fy) Bool.false_ne_true
def eqU (x : V) (u : Value) : Bool := match u with
  | .none => eqV .non x
  | .bool b => eqV (.bl b) x
  | .int i _ => eqV (.int i) x
  | .str z _ => eqV (.str z) x
  | _ => false
theorem eqU_of {x y:V} {u:Value} (r:RelV y u) (f:flatV y = true):eqU x u = eqV y x:=by
  cases y with
  | non => cases r; rfl
  | bl b => cases r; rfl
  | int i => obtain ⟨t, rfl⟩ := r; rfl
  | str z => obtain ⟨t, rfl⟩ := r; rfl
  | _=>exact absurd (show false = true from f) Bool.false_ne_true
theorem mem_eqAt {A:Around} {s:Shared} {x:V} {v:Value} (rx:RelV x v) (fx:flatV x = true):∀ {xs:List V} {us:List Value},Vals xs us→xs.all flatV = true→∀ u ∈ us,SeqAt.EqAt A s u v (eqU x u)
  | _, _, .nil, _ => fun u hu => by cases hu
  | y :: xs, u :: us, .cons r t, f => fun u' hu => by
    rw [List.all_cons, Bool.and_eq_true] at f
    rcases List.mem_cons.mp hu with rfl | hu
    · rw [eqU_of r f.1]; exact eqAt_V r rx f.1 fx
    · exact mem_eqAt rx fx t f.2 u' hu
theorem call_len_seq:CallR X (.builtin "len") (fun xs H Q=>∃ p ys,xs = [.ref p]∧(SqL X.K H p ys ∨ SqT X.K H p ys)∧Q (.int ys.length) H):=by
  intro pins s σ H xs us Q I r h
  obtain ⟨p, ys, rfl, hq, q⟩ := h
  obtain ⟨u, rfl, rx⟩ := vals1 r
  cases rx
  have hn := line63
  rcases hq with hq | hq
  · obtain ⟨its, r', pl, hz⟩ := I.list hq
    have hlen := r'.length
    exact Calls.call_len_list pl.isList (by simp only [List.size_toArray] <;> omega) ⟨.int ys.length,H,I.tok _,⟨s.toks + 1,by rw [List.size_toArray,hlen]⟩,q⟩
  · obtain ⟨its, r', pl, hz⟩ := I.tuple hq
    have hlen := r'.length
    exact len_tuple pl (by simp only [List.size_toArray] <;> omega) ⟨.int ys.length,H,I.tok _,⟨s.toks + 1,by rw [List.size_toArray,hlen]⟩,q⟩
theorem call_len_str:CallR X (.builtin "len") (fun xs H Q=>∃ z,xs = [.str z]∧z.length ≤ sizeLine∧Q (.int z.length) H):=by
  intro pins s σ H xs us Q I r h
  obtain ⟨z, rfl, hz, q⟩ := h
  obtain ⟨u, rfl, t, rfl⟩ := vals1 r
  have hn := line63
  exact len_str (by omega) ⟨.int z.length,H,I.tok _,⟨_,rfl⟩,q⟩
theorem call_list_of:CallR X (.type "list") (fun xs H Q=>∃ p ys,xs = [.ref p]∧(SqL X.K H p ys ∨ SqT X.K H p ys)∧∀ l,H l = none→Q (.ref l) (upd H l (.lst ys))):=by
  intro pins s σ H xs us Q I r h
  obtain ⟨p, ys, rfl, hq, q⟩ := h
  obtain ⟨u, rfl, rx⟩ := vals1 r
  cases rx
  have fin:∀ (its:List Value),Vals ys its→ys.length ≤ sizeLine→∀ (h':Heap) (c':Nat),(∀ b o',s.heap.get? b = some o'→h'.get? b = some o') →
      h'.get? s.heap.objs.size = some { cls:=.type "list",dict:=none,data:=.seq its.toArray c',slots:=#[] }→EP X pins σ Q (.ref s.heap.objs.size) { s with heap:=h' }:=fun its r' hz h' c' kp e =>
    ⟨.ref s.heap.objs.size,_,I.laid (t':=s.toks) kp (Nat.le_refl _) (show ObjOk X.prog X.w _ h' _ (.lst ys) from ⟨hz,its,c',r',e⟩),rfl,q _ (I.hok.fresh (Nat.le_refl _))⟩
  rcases hq with hq | hq
  · obtain ⟨its, r', pl, hz⟩ := I.list hq
    have hlen := r'.length
    obtain ⟨o, ho, hc, n, hd⟩ := pl.isList
    exact call_list_seq p (.inl rfl) ho hc hd (fun h' c' kp e=>fin its r' hz h' c' kp e) (by simp only [List.size_toArray] <;> omega)
  · obtain ⟨its, r', pl, hz⟩ := I.tuple hq
    have hlen := r'.length
    obtain ⟨o, ho, hc, n, hd⟩ := pl
    exact call_list_seq p (.inr rfl) ho hc hd (fun h' c' kp e=>fin its r' hz h' c' kp e) (by simp only [List.size_toArray] <;> omega)
def tyV (K:PySem.W.Frag) (T:String) (x:V) (H:Hp):Prop:=match x with
  | .str _ => T = "str"
  | .int _ => T = "int"
  | .ref p=>(T = "list"∧∃ xs,SqL K H p xs) ∨ (T = "tuple"∧∃ o,K.lookup p = some o∧o.cls = .type "tuple"∧o.dict = none) ∨
      (T = "dict"∧((∃ kvs,H p = some (.dK kvs)) ∨ ∃ kvs,H p = some (.dT kvs))) ∨ (T = "set"∧∃ S n,H p = some (.set S n))
  | _ => False
theorem tyV_is {pins:List (Addr × Obj)} {σ:St} {H:Hp} {s:Shared} {T:String} {x:V} {v:Value} (I:Inv X pins σ H s) (r:RelV x v) (ty:tyV X.K T x H) :
    s.TypeIs v T∧∀ a,v = .ref a→∃ ob,s.heap.get? a = some ob∧ob.dict = none:=by
  cases x with
  | str z =>
    obtain ⟨t, rfl⟩ := r
    cases (show T = "str" from ty)
    exact ⟨typeIs_str s z t, fun _ e => nomatch e⟩
  | int i =>
    obtain ⟨t, rfl⟩ := r
    cases (show T = "int" from ty)
    exact ⟨typeIs_int s i t, fun _ e => nomatch e⟩
  | ref p =>
    cases r
    rcases ty with ⟨rfl,xs,hq⟩ | ⟨rfl,o,hk,hc,hd⟩ | ⟨rfl,hk⟩ | ⟨rfl,S,n,hk⟩
    · obtain ⟨its, _, pl, _⟩ := I.list hq
      refine ⟨pl.isList.typeIs, fun a e => ?_⟩
      cases e
      obtain ⟨o, n, e, c, hd, _⟩ := pl
      exact ⟨o, e, hd⟩
    · refine ⟨⟨o, I.kIn p o hk, hc⟩, fun a e => ?_⟩
      cases e
      exact ⟨o, I.kIn _ o hk, hd⟩
    · have z:∃ o,s.heap.get? p = some o∧o.ExactDict:=by
        rcases hk with ⟨kvs, hk⟩ | ⟨kvs, hk⟩
        · obtain ⟨_,_,_,_,o,_,_,e,ex,_⟩:=I.hok p _ hk
          exact ⟨o, e, ex⟩
        · obtain ⟨_,_,_,_,o,_,_,e,ex,_⟩:=I.hok p _ hk
          exact ⟨o, e, ex⟩
      obtain ⟨o, e, ex⟩ := z
      refine ⟨⟨o, e, ex.1⟩, fun a e2 => ?_⟩
      cases e2
      exact ⟨o, e, ex.2.1⟩
    · obtain ⟨o, _, _, _, e, ex, _⟩ := I.hok p _ hk
      refine ⟨⟨o, e, ex.1⟩, fun a e2 => ?_⟩
      cases e2
      exact ⟨o, e, ex.2.1⟩
  | _ => exact False.elim ty
def tBM (K:PySem.W.Frag) (T:String) (r:V→List V→Hp→VK→Prop) (to:TE) (t:TA):TE:=fun σ H Q=>to σ H fun x H1=>tyV K T x H1∧t σ H1 fun xs H2=>r x xs H2 Q
variable {o e:Expr} {es:List Expr} {to:TE} {t:TA} {name:Str} {apos cpos:Pos} {T id:String} {r:V→List V→Hp→VK→Prop}
theorem pe_bm (pa:PlainAttrs T) (slot:Slot T name id) (hty:typeOf (.builtin id) = pure (.type "method_descriptor")) (hm:MtR X id r) (ho:PE X o to) (ha:PA X (e :: es) t)
    (hbase:attributeBase o name X.env (eval o X.env) = eval o X.env:=by rfl)
    (hfew:((backTo cpos (starEach (e :: es) X.env)).all (fun x=>!x.1) && (backToKw cpos (keywordEach [] X.env)).all (fun x=>x.1.isSome)
      && decide ((e :: es).length + ([]:List Keyword).length + (if ([]:List Keyword).isEmpty then 0 else 1) < 30)) = true:=by rfl)
    (hline:(apos.endLine == cpos.line) = true:=by rfl) (hs:starEach (e :: es) X.env = (false,eval e X.env) :: starEach es X.env:=by rfl) (hplain:(backTo cpos (starEach es X.env)).any (·.1) = false:=by rfl) :
    PE X (.Call (.Attribute o name apos) (e :: es) [] cpos) (tBM X.K T r to t):=by
  intro pins s σ H Q I h
  refine wpAny_Call_method_late hbase hfew hline rfl (thn (ho pins s σ H _ I h) fun v s1 ⟨x,H1,I1,r1,ty,q1⟩=>?_)
  obtain ⟨h1, h2⟩ := tyV_is I1 r1 ty
  refine ⟨T, id, pa, slot, hty, h1, h2, ?_⟩
  have hA := ha cpos pins s1 σ H1 _ I1 q1
  rw [hs] at hA ⊢
  refine Calls.callWith_builtin (by show (false || (backTo cpos (starEach es X.env)).any (·.1)) = false; rw [hplain] <;> rfl) (Calls.evalArgs_plain ?_)
  exact thn hA fun us s2 ⟨vs,H2,I2,r2,q2⟩=>hm pins s2 σ H2 x vs v us Q I2 r1 r2 q2
/- xs.append(e),list.index on a module's tuple .. are MtR facts of 06m -/
end
end L2
namespace L2
open PySem PySem.Spec PyProof.Rows
def MtM (X:Cx) (id:String) (r:V→List V→Hp→VK→Prop):Prop :=
  ∀ (pins:List (Addr × Obj)) (s:Shared) (σ:St) (H:Hp) (x:V) (xs:List V) (v:Value) (us:List Value) (Q:VK),Inv X pins σ H s→RelV x v→Vals xs us→r x xs H Q →
    wpAny (model X.prog X.w) X.A (call (.builtin id) (v :: us)) (EP X pins σ Q) X.xe s
theorem Vals.one:∀ {x:V} {us:List Value},Vals [x] us→∃ u,us = [u]∧RelV x u
  | _, _, .cons r .nil => ⟨_, rfl, r⟩
section
variable {X:Cx} {pins:List (Addr × Obj)} {σ:St} {H:Hp} {s:Shared} {l b:Addr} {xs ys zs:List V}
theorem Inv.lset {its its':List Value} {n:Nat} {f:Array Value→Array Value} {t':Nat} (I:Inv X pins σ H s) (hH:H l = some (.lst xs))
    (e:s.heap.get? l = some { cls:=.type "list",data:=.seq its.toArray n }) (hf:f its.toArray = its'.toArray) (hv:Vals ys its') (hz:ys.length ≤ sizeLine) :
    Inv X pins σ (upd H l (.lst ys)) { s with heap:=s.heap.update l (Obj.mapSeq f),toks:=t' }:=by
  have q := PySem.IsL.update e f
  rw [hf] at q
  refine I.write (x:=l) (e:=l) (by rw [hH]; exact trivial) (.inl rfl) (fun b' u hb hu=>(Heap.get?_update_other s.heap (Obj.mapSeq f) (Ne.symm hb)).trans hu) ⟨_,q⟩ ?_
  exact ⟨hz, its', _, hv, q⟩
theorem Inv.lnew {its:List Value} {t':Nat} (I:Inv X pins σ H s) (hv:Vals ys its) (hz:ys.length ≤ sizeLine) :
    Inv X pins σ (upd H s.heap.objs.size (.lst ys)) { s with heap:=s.heap.push { cls:=.type "list",data:=.seq its.toArray },toks:=t' } :=
  I.laid (fun _ _ q=>Heap.get?_push_of_some _ q) (Nat.le_refl _) ⟨hz,its,0,hv,Heap.get?_push_size _ rfl⟩
theorem Inv.fresh (I:Inv X pins σ H s):H s.heap.objs.size = none:=I.hok.fresh (Nat.le_refl _)
theorem Inv.lstM (I:Inv X pins σ H s) (hH:H l = some (.lst xs)):xs.length ≤ sizeLine∧∃ (its:List Value) (n:Nat),Vals xs its∧xs.length = its.length∧s.heap.get? l = some { cls:=.type "list",data:=.seq its.toArray n }:=by
  obtain ⟨z, its, n, r, e⟩ := I.hok l _ hH
  exact ⟨z, its, n, r, r.length, e⟩
theorem notLongL {n:Nat} (h:n ≤ sizeLine):Builtin.List.listTooLong n = false:=by
  unfold Builtin.List.listTooLong
  exact decide_eq_false (by omega)
end
section
variable {X : Cx}
def rAppend:V→List V→Hp→VK→Prop:=fun x vs H Q=>∃ l xs y,x = .ref l∧vs = [y]∧H l = some (.lst xs)∧xs.length < sizeLine∧Q .non (upd H l (.lst (xs ++ [y])))
theorem mt_append : MtM X "list.append" rAppend := by
  intro pins s σ H x vs v us Q I rx rv h
  obtain ⟨l, xs, y, rfl, rfl, hH, hz, q⟩ := h
  cases rx
  obtain ⟨u, rfl, ru⟩ := rv.one
  obtain ⟨z, its, n, r, hl, e⟩ := I.lstM hH
  refine call_meets F.slot_list_append ⟨_,e,rfl⟩ F.entry_list_append (F.args_list_append_2 _ _) (PySem.list_append l its.toArray n u (by rw [List.size_toArray]; omega)) ⟨e,?_⟩
  refine ⟨.non,_,I.lset (its':=its ++ [u]) hH e (by simp) (r.append (.cons ru .nil)) ?_,rfl,q⟩
  rw [List.length_append, List.length_singleton]
  omega
def rCat:R2:=fun x y H Q=>∃ l b xs zs,x = .ref l∧y = .ref b∧H l = some (.lst xs)∧H b = some (.lst zs)∧xs.length + zs.length ≤ sizeLine∧∀ p,H p = none→Q (.ref p) (upd H p (.lst (xs ++ zs)))
theorem op_cat : OpR X (binaryOp .Add) rCat := by
  intro pins s σ H x y v u Q I rx ry h
  obtain ⟨l, b, xs, zs, rfl, rfl, hH, hB, hz, q⟩ := h
  cases rx
  cases ry
  obtain ⟨z, its, n, r, hl, e⟩ := I.lstM hH
  obtain ⟨z2, its2, n2, r2, hl2, e2⟩ := I.lstM hB
  refine PySem.P.add_list e e2 ?_ (by rw [List.size_toArray,List.size_toArray]; omega)
  have ea:its.toArray ++ its2.toArray = (its ++ its2).toArray:=by simp
  rw [ea]
  exact ⟨.ref _,_,I.lnew (t':=s.toks) (r.append r2) (by rw [List.length_append]; omega),rfl,q _ I.fresh⟩
end
section
variable {prog:Program} {w:World} {A:Around} {E:Value→Shared→Prop} {s:Shared}
set_option maxRecDepth 100000 in
end
section
variable {X : Cx}
end
end L2
namespace Att
open PySem PySem.W PySem.Calls PyProof.Rows
theorem ints_of_wellAll {P:Params} {h:Heap}:∀ (ns:List Int) (vs:List Value),WellAll P h vs (ns.map WData.int)→IntsAre vs ns:=by
  intro ns
  induction ns with
  | nil =>
    intro vs w
    rw [List.map_nil] at w
    cases w
    exact .nil
  | cons n ns ih =>
    intro vs w
    rw [List.map_cons] at w
    cases w with
    | cons a b =>
      cases a
      exact .cons _ _ (ih _ b)
theorem script_of {l:OpenLaw} {n:Nat} (hn:l.most = some n) {P:Params} {h:Heap} {args:List WData} {vals:List Value}
    (hpre:l.row.toRowW.claim.pre args = true) (hwl:WellAll P h vals args) :
    ∃ a vs ns,vals = [Value.ref a]∧args = [WData.list (ns.map WData.int)]∧h.get? a = some { cls:=.type "list",data:=.seq vs.toArray }∧IntsAre vs ns∧ns.length ≤ n:=by
  have hsh:WShape.hasAll [] args [.list .int] = true:=(pre_splitW hpre).1
  have hc:l.pre.holds [] { args:=args } = true:=(pre_splitW hpre).2
  obtain ⟨d, r, rfl, h1, h2⟩ := hasAllW_cons hsh
  obtain rfl := hasAllW_nil h2
  obtain ⟨xs, rfl, h3⟩ := hasW_list h1
  obtain ⟨ns, rfl⟩ := items_int h3
  have hlen : ns.length ≤ n := by
    unfold OpenLaw.pre at hc
    have h4:(WTm.not (.lt (.lit (.int (n:Int))) (.len (.arg 0)))).holds [] { args:=[.list (ns.map .int)] } = true:=by
      have h4 := (holds_andW hc).1
      rw [hn] at h4
      exact h4
    have h5:=condW_of h4 (w_not (w_lt w_lit (w_len_list (w_arg rfl))))
    rw [List.length_map] at h5
    refine Nat.le_of_not_lt fun q => ?_
    have q':(n:Int) < ((ns.length:Nat):Int):=by omega
    first
      | (rw [decide_eq_true q'] at h5; exact absurd h5 (by decide))
      | (simp at h5; omega)
  cases hwl with
  | cons w1 w2 =>
    cases w2
    cases w1 with
    | list ho hall=>exact ⟨_,_,ns,rfl,rfl,ho,ints_of_wellAll ns _ hall,hlen⟩
theorem post_true (l:OpenLaw) (args:List WData):l.row.toRowW.claim.post args (.bool true) args = true :=
  postW_of (r := l.row.toRowW) (X := (true == true))
    (show WShape.has [] (.bool true) .bool = true by first | rfl | decide | simp [WShape.has,WShape.arms,WShape.armsAll])
    (show (WTm.eq .res (.lit (.bool true))).value [] { args:=args,res:=some (.bool true),after:=args } = some (.bool (true == true)) from w_eq_bool (w_res rfl) w_lit) rfl
section
variable {prog:Program} {w:World} {A:Around} {E:Value→Shared→Prop} {s:Shared} {K:Frag}
end
end Att
namespace L2
open PySem PySem.Spec PyProof.Rows
theorem vals_ints:∀ {vs:List Value} {ns:List Int},IntsAre vs ns→Vals (ns.map V.int) vs
  | _, _, .nil => .nil
  | _, _, .cons n t h => .cons ⟨t, rfl⟩ (vals_ints h)
end L2
namespace L2
open PySem PySem.Spec PyProof.Rows
end L2
/- THE LAST THEOREM (shape; LID, My.* are yours):
   My.Adr: a structure of the addresses that your layer names (classes,functions); My.Txt K t: a structure (Prop) of the equations over K;
   My.txt_mk:{K} {implicit addresses ..} (e1:nsIn K mainGlobals "law" = some (some (.ref f))) (e2:K.lookup f = some ⟨oc,od,.func (fnOf "law" "law" params body scope dV kV doc pm an cdv ct),sl⟩) (e3:codeIn K cdv "law" = true) ..:∃ t,My.Txt K t
set_option maxRecDepth 100000 in
set_option maxHeartbeats 0 in
(the tactic k_is has no namespace: write k_is) -/
namespace L2
open PySem PySem.Spec PyProof.Rows
def inClass (s : Stmt) (j : Nat) : Stmt := match s with
  | .ClassDef _ _ _ body _ _ _ _ _ _ _=>body.getD j (.Pass ⟨0,0,0,0⟩)
  | _ => .Pass ⟨0, 0, 0, 0⟩
def defArgs (s : Stmt) : Arguments := match s with
  | .FunctionDef _ a _ _ _ _ _ _ _ _ => a
  | _=>{ posonlyargs:=[],args:=[],vararg:=none,kwonlyargs:=[],kw_defaults:=[],kwarg:=none,defaults:=[] }
def defBody (s : Stmt) : List Stmt := match s with
  | .FunctionDef _ _ b _ _ _ _ _ _ _ => b
  | _ => []
def defScope (s : Stmt) : Scope := match s with
  | .FunctionDef _ _ _ _ _ _ sc _ _ _ => sc
  | _=>{ kind:=.function,names:=[],isGenerator:=false,isCoroutine:=false }
abbrev E0 : XK := fun _ _ _ => False
structure Fun (K:PySem.W.Frag) (x qual:Str) (st:Stmt) (f:Addr) (fd:FuncData):Prop where
  ex:∃ (oc:Value) (od:Option Addr) (kV doc pm:Value) (an:Option Addr) (cdv ct:Value) (osl:Array (Option Value)),
    fd = PySem.W.fnOf x qual (defArgs st) (defBody st) (defScope st) .none kV doc pm an cdv ct∧K.lookup f = some ⟨oc,od,.func fd,osl⟩∧PySem.W.codeIn K cdv qual = true
  kp : PySem.W.keepIn K (.ref f) = true
section
variable {P:Program} {w:World} {K:PySem.W.Frag} {mg:Str→Option Value} {base:Heap}
theorem Fun.binds {x qual:Str} {st:Stmt} {f:Addr} {fd:FuncData} {ps:List Str} (F:Fun K x qual st f fd)
    (h:∀ (kV doc pm:Value) (an:Option Addr) (cdv ct:Value) (us:List Value),us.length = ps.length→bindArgs (PySem.W.fnOf x qual (defArgs st) (defBody st) (defScope st) .none kV doc pm an cdv ct) ⟨us,[]⟩ = pure (ps.zip us)):Binds K fd ps []:=by
  obtain ⟨oc,od,kV,doc,pm,an,cdv,ct,osl,rfl,lk,hcd⟩:=F.ex
  exact .all (h kV doc pm an cdv ct)
theorem fun_mk {x qual:Str} {st:Stmt} {f:Addr} {oc:Value} {od an:Option Addr} {osl:Array (Option Value)} {kV doc pm cdv ct:Value} (l:K.lookup f = some ⟨oc,od,.func (PySem.W.fnOf x qual (defArgs st) (defBody st) (defScope st) .none kV doc pm an cdv ct),osl⟩)
    (c:PySem.W.codeIn K cdv qual = true) (k:PySem.W.keepIn K (.ref f) = true):Fun K x qual st f (PySem.W.fnOf x qual (defArgs st) (defBody st) (defScope st) .none kV doc pm an cdv ct):=⟨⟨oc,od,kV,doc,pm,an,cdv,ct,osl,rfl,l,c⟩,k⟩
end
section
variable {X : Cx}
end
def Same (H H':Hp):Prop:=∀ b o,H b = some o→H' b = some o
theorem Same.refl (H : Hp) : Same H H := fun _ _ h => h
theorem Same.trans {H H1 H2:Hp} (a:Same H H1) (b:Same H1 H2):Same H H2:=fun c o h=>b c o (a c o h)
theorem Same.seq {K:PySem.W.Frag} {H H':Hp} {a:Addr} {xs:List V} (e:Same H H') (h:SqL K H a xs):SqL K H' a xs:=by
  rcases h with (h | ⟨o, h⟩) | h
  · exact .inl (.inl (e _ _ h))
  · exact .inl (.inr ⟨o, e _ _ h⟩)
  · exact .inr h
end L2
section
set_option Elab.async false
set_option linter.all false
set_option maxRecDepth 100000
namespace L2
open PySem PySem.Spec PyProof.Rows
section
variable {κ : Type} [DecidableEq κ]
def valV (kvs:List (κ × V)) (k:κ):Option V:=(kvs.find? fun kv=>decide (kv.1 = k)).map (·.2)
def putK (kvs:List (κ × V)) (k:κ) (v:V):List (κ × V) :=
  if (kvs.any fun kv=>decide (kv.1 = k)) = true then kvs.map (fun kv=>if kv.1 = k then (kv.1,v) else kv) else kvs ++ [(k,v)]
theorem valV_pos {p:κ × V} {r:List (κ × V)} {k:κ} (e:p.1 = k):valV (p :: r) k = some p.2:=by simp [valV,List.find?_cons,e]
theorem valV_neg {p:κ × V} {r:List (κ × V)} {k:κ} (e:¬ p.1 = k):valV (p :: r) k = valV r k:=by simp [valV,List.find?_cons,e]
theorem valV_any (k:κ):∀ kvs:List (κ × V),(kvs.any fun kv=>decide (kv.1 = k)) = (valV kvs k).isSome
  | [] => rfl
  | p :: r => by
    rw [List.any_cons]
    by_cases e : p.1 = k
    · simp only [valV_pos e,decide_eq_true e,Bool.true_or,Option.isSome_some]
    · rw [valV_neg e,decide_eq_false e,Bool.false_or]; exact valV_any k r
theorem valV_map (k j:κ) (y:V):∀ kvs:List (κ × V),valV (kvs.map fun kv=>if kv.1 = k then (kv.1,y) else kv) j = (valV kvs j).map fun x=>if j = k then y else x
  | [] => rfl
  | p :: r => by
    have ih := valV_map k j y r
    rw [List.map_cons]
    by_cases h : p.1 = k
    · rw [if_pos h]
      by_cases e : p.1 = j
      · rw [valV_pos (p:=(p.1,y)) e,valV_pos e,Option.map_some,if_pos (e.symm.trans h)]
      · rw [valV_neg (p := (p.1, y)) e, valV_neg e, ih]
    · rw [if_neg h]
      by_cases e : p.1 = j
      · rw [valV_pos (p:=p) e,valV_pos e,Option.map_some,if_neg (fun z=>h (e.trans z))]
      · rw [valV_neg (p := p) e, valV_neg e, ih]
theorem valV_snoc (k j:κ) (y:V):∀ kvs:List (κ × V),valV kvs k = none→valV (kvs ++ [(k,y)]) j = if j = k then some y else valV kvs j
  | [], _ => by
    by_cases e : k = j
    · rw [if_pos e.symm]; exact valV_pos (p := (k, y)) e
    · rw [if_neg (fun z=>e z.symm)]; exact valV_neg (p:=(k,y)) e
  | p :: r, hn => by
    rw [List.cons_append]
    have hk:¬ p.1 = k:=fun z=>by rw [valV_pos z] at hn; cases hn
    rw [valV_neg hk] at hn
    have ih := valV_snoc k j y r hn
    by_cases e : p.1 = j
    · rw [valV_pos e,valV_pos e,if_neg (fun z=>hk (e.trans z))]
    · rw [valV_neg e, valV_neg e, ih]
theorem valV_put (kvs:List (κ × V)) (k j:κ) (y:V):valV (putK kvs k y) j = if j = k then some y else valV kvs j:=by
  unfold putK
  by_cases a : (kvs.any fun kv => decide (kv.1 = k)) = true
  · rw [if_pos a, valV_map]
    rw [valV_any] at a
    by_cases e : j = k
    · obtain ⟨x, hx⟩ := Option.isSome_iff_exists.mp a
      rw [if_pos e, e, hx, Option.map_some, if_pos rfl]
    · rw [if_neg e]
      cases valV kvs j with
      | none => rfl
      | some x => rw [Option.map_some, if_neg e]
  · rw [if_neg a]
    refine valV_snoc k j y kvs ?_
    rw [valV_any] at a
    cases q : valV kvs k with
    | none => rfl
    | some x => rw [q] at a; exact (a rfl).elim
theorem length_putK (kvs:List (κ × V)) (k:κ) (v:V):(putK kvs k v).length ≤ kvs.length + 1:=by
  unfold putK
  split
  · rw [List.length_map]; omega
  · rw [List.length_append,List.length_cons,List.length_nil]; omega
theorem RelO.isSome_eq {o:Option V} {u:Option Value} (r:RelO o u):o.isSome = u.isSome:=by
  cases o with
  | none => cases u with
    | none => rfl
    | some _ => exact (show False from r).elim
  | some _ => cases u with
    | none => exact (show False from r).elim
    | some _ => rfl
theorem RelO.getD {o:Option V} {u:Option Value} {d:V} {d':Value} (r:RelO o u) (rd:RelV d d'):RelV (o.getD d) (u.getD d'):=by
  cases o with
  | none => cases u with
    | none => exact rd
    | some _ => exact (show False from r).elim
  | some _ => cases u with
    | none => exact (show False from r).elim
    | some _ => exact r
theorem KV.val {kvs:List (κ × V)} {vs:List (κ × Value)} (r:KV kvs vs) (k:κ):RelO (valV kvs k) (valueAt vs k):=by
  unfold KV at r
  induction r with
  | nil => exact True.intro
  | @cons p q ps qs h t ih =>
    obtain ⟨h1, h2⟩ := h
    by_cases e : p.1 = k
    · have e' : q.1 = k := h1.symm.trans e
      have b:valueAt (q :: qs) k = some q.2:=by simp [valueAt,List.find?_cons,e']
      rw [valV_pos e, b]; exact h2
    · have e' : ¬ q.1 = k := fun z => e (h1.trans z)
      have b:valueAt (q :: qs) k = valueAt qs k:=by simp [valueAt,List.find?_cons,e']
      rw [valV_neg e, b]; exact ih
theorem KV.any {kvs:List (κ × V)} {vs:List (κ × Value)} (r:KV kvs vs) (k:κ):(kvs.any fun kv=>decide (kv.1 = k)) = vs.any fun kv=>decide (kv.1 = k):=by
  unfold KV at r
  induction r with
  | nil => rfl
  | cons h t ih=>rw [List.any_cons,List.any_cons,ih,h.1]
theorem KV.repl {kvs:List (κ × V)} {vs:List (κ × Value)} (r:KV kvs vs) (k:κ) {y:V} {u:Value} (ry:RelV y u) :
    KV (kvs.map fun kv=>if kv.1 = k then (kv.1,y) else kv) (vs.map fun kv=>if kv.1 = k then (kv.1,u) else kv):=by
  unfold KV at r ⊢
  induction r with
  | nil => exact .nil
  | @cons p q ps qs h t ih =>
    rw [List.map_cons, List.map_cons]
    refine .cons ?_ ih
    obtain ⟨h1, h2⟩ := h
    by_cases e : p.1 = k
    · rw [if_pos e,if_pos (h1.symm.trans e)]; exact ⟨h1,ry⟩
    · rw [if_neg e,if_neg (fun z=>e (h1.trans z))]; exact ⟨h1,h2⟩
theorem KV.put {kvs:List (κ × V)} {vs:List (κ × Value)} (r:KV kvs vs) (k:κ) {y:V} {u:Value} (ry:RelV y u):KV (putK kvs k y) (stored vs k u):=by
  unfold putK stored
  rw [r.any k]
  by_cases e : (vs.any fun kv => decide (kv.1 = k)) = true
  · rw [if_pos e, if_pos e]; exact r.repl k ry
  · rw [if_neg e, if_neg e]; exact Paired.snoc r ⟨rfl, ry⟩
theorem KV.keys {kvs:List (κ × V)} {vs:List (κ × Value)} (r:KV kvs vs):kvs.map (·.1) = vs.map (·.1):=by
  unfold KV at r
  induction r with
  | nil => rfl
  | cons h t ih=>rw [List.map_cons,List.map_cons,ih,h.1]
theorem KV.length {kvs:List (κ × V)} {vs:List (κ × Value)} (r:KV kvs vs):kvs.length = vs.length:=Paired.length r
end
theorem kV_is {P:Program} {w:World} {k:Key} {u:Value} (r:RelV (kV k) u):(mixKind P w).is k u = true:=by
  cases k with
  | inl i=>obtain ⟨t,e⟩:=(show ∃ t,u = Value.int i t from r); subst e; exact mixKind_int P w i t
  | inr x=>obtain ⟨t,e⟩:=(show ∃ t,u = Value.str x t from r); subst e; exact mixKind_str P w x t
theorem items_are {P:Program} {w:World}:∀ {ks:List Key} {us:List Value},Vals (ks.map kV) us→ItemsAre (mixKind P w) ks us
  | [],_,r=>by rw [List.map_nil] at r; cases r; exact .nil
  | k :: ks, _, r => by
    rw [List.map_cons] at r
    cases r with
    | cons h t => exact .cons (kV_is h) (items_are t)
abbrev KT (H:Hp):List (List Key × V)→List (List Key × Addr × Value)→Prop:=Paired fun p q=>p.1 = q.1∧H q.2.1 = some (.tup (p.1.map kV))∧RelV p.2 q.2.2
theorem KT.val {H:Hp} {kvs:List (List Key × V)} {xs:List (List Key × Addr × Value)} (r:KT H kvs xs) (k:List Key):RelO (valV kvs k) ((atKey xs k).map (·.2)):=by
  induction r with
  | nil => exact True.intro
  | @cons p q ps qs h t ih =>
    obtain ⟨h1, _, h2⟩ := h
    by_cases e : p.1 = k
    · have e' : q.1 = k := h1.symm.trans e
      have b:atKey (q :: qs) k = some q.2:=by simp [atKey,List.find?_cons,e']
      rw [valV_pos e, b]; exact h2
    · have e' : ¬ q.1 = k := fun z => e (h1.trans z)
      have b:atKey (q :: qs) k = atKey qs k:=by simp [atKey,List.find?_cons,e']
      rw [valV_neg e, b]; exact ih
theorem KT.repl {H:Hp} {kvs:List (List Key × V)} {xs:List (List Key × Addr × Value)} (r:KT H kvs xs) (k:List Key) {y:V} {u:Value} (ry:RelV y u) :
    KT H (kvs.map fun kv=>if kv.1 = k then (kv.1,y) else kv) (xs.map (putAt k u)):=by
  induction r with
  | nil => exact .nil
  | @cons p q ps qs h t ih =>
    rw [List.map_cons, List.map_cons]
    refine .cons ?_ ih
    obtain ⟨h1, h2, h3⟩ := h
    unfold putAt
    by_cases e : p.1 = k
    · rw [if_pos e,if_pos (h1.symm.trans e)]; exact ⟨h1,h2,ry⟩
    · rw [if_neg e,if_neg (fun z=>e (h1.trans z))]; exact ⟨h1,h2,h3⟩
theorem KT.put {H:Hp} {kvs:List (List Key × V)} {xs:List (List Key × Addr × Value)} (r:KT H kvs xs) (k:List Key) {b:Addr} {y:V} {u:Value} (hb:H b = some (.tup (k.map kV))) (ry:RelV y u) :
    KT H (putK kvs k y) (storedH xs k b u) := by
  have e:(kvs.any fun kv=>decide (kv.1 = k)) = (atKey xs k).isSome:=by
    rw [valV_any, (r.val k).isSome_eq, Option.isSome_map]
  unfold putK storedH
  rw [e]
  by_cases q : (atKey xs k).isSome = true
  · rw [if_pos q, if_pos q]; exact r.repl k ry
  · rw [if_neg q,if_neg q]; exact Paired.snoc r ⟨rfl,hb,ry⟩
theorem KT.keeps {H H':Hp} {kvs:List (List Key × V)} {xs:List (List Key × Addr × Value)} (r:KT H kvs xs) (ht:∀ b ys,H b = some (.tup ys)→H' b = some (.tup ys)):KT H' kvs xs :=
  Paired.mapP r fun _ _ z => ⟨z.1, ht _ _ z.2.1, z.2.2⟩
section
variable {P:Program} {w:World} {H:Hp} {h:Heap} {a:Addr}
theorem rd_of {u:HO} (ok:HOk P w H h) (e:Rd H a u):ObjOk P w H h a u:=e.ok ok
theorem dk_rd {kvs:List (Key × V)} (ok:HOk P w H h) (e:Rd H a (.dK kvs)):kvs.length ≤ sizeLine∧(a == sysModules) = false∧∃ vs,KV kvs vs∧h.DictOf (mixKind P w) a vs :=
  show ObjOk P w H h a (.dK kvs) from rd_of ok e
theorem dk_of {kvs:List (Key × V)} (ok:HOk P w H h) (e:H a = some (.dK kvs)):kvs.length ≤ sizeLine∧(a == sysModules) = false∧∃ vs,KV kvs vs∧h.DictOf (mixKind P w) a vs:=dk_rd ok (.inl e)
theorem key_of {ks:List Key} (ok:HOk P w H h) (e:H a = some (.tup (ks.map kV))):(tupleKind (mixKind P w)).is h ks a:=by
  obtain ⟨_,its,r,o,h1,h2,n,h3⟩:=(show ObjOk P w H h a (.tup (ks.map kV)) from ok a _ e)
  exact ⟨o,its.toArray,n,h1,h2,h3,by simpa using items_are r⟩
theorem dt_rd {kvs:List (List Key × V)} (ok:HOk P w H h) (e:Rd H a (.dT kvs)):kvs.length ≤ sizeLine∧(a == sysModules) = false ∧
    ∃ xs,KT H kvs xs∧h.DictOfH (tupleKind (mixKind P w)) a xs:=by
  obtain ⟨z,y,xs,r,o,es,ep,h1,h2,h3,h4,h5⟩:=(show ObjOk P w H h a (.dT kvs) from rd_of ok e)
  refine ⟨z,y,xs,r,o,es,ep,h1,h2,h3,h4,fun x hx=>?_,h5⟩
  have all:∀ {l:List (List Key × V)} {m:List (List Key × Addr × Value)},KT H l m→∀ x ∈ m,(tupleKind (mixKind P w)).is h x.1 x.2.1:=by
    intro l m q
    induction q with
    | nil => intro x hx; exact nomatch hx
    | @cons p q ps qs hq t ih =>
      intro x hx
      rcases List.mem_cons.mp hx with e | hx
      · subst e
        exact key_of ok (by rw [← hq.1]; exact hq.2.1)
      · exact ih x hx
  exact all r x hx
theorem dt_of {kvs:List (List Key × V)} (ok:HOk P w H h) (e:H a = some (.dT kvs)):kvs.length ≤ sizeLine∧(a == sysModules) = false ∧
    ∃ xs,KT H kvs xs∧h.DictOfH (tupleKind (mixKind P w)) a xs:=dt_rd ok (.inl e)
end
def DGet (H:Hp) (a:Addr) (y:V) (r:Option V):Prop :=
  (∃ kvs k,Rd H a (.dK kvs)∧y = kV k∧r = valV kvs k) ∨ ∃ kvs k b,Rd H a (.dT kvs)∧y = .ref b∧H b = some (.tup (k.map kV))∧r = valV kvs k
def DPut (H : Hp) (a : Addr) (y v : V) (H' : Hp) : Prop :=
  (∃ kvs k,H a = some (.dK kvs)∧y = kV k∧kvs.length < sizeLine∧H' = upd H a (.dK (putK kvs k v))) ∨
  ∃ kvs k b,H a = some (.dT kvs)∧y = .ref b∧H b = some (.tup (k.map kV))∧kvs.length < sizeLine∧H' = upd H a (.dT (putK kvs k v))
theorem DGet.k {H:Hp} {a:Addr} {kvs:List (Key × V)} {k:Key} (e:H a = some (.dK kvs)):DGet H a (kV k) (valV kvs k):=.inl ⟨kvs,k,.inl e,rfl,rfl⟩
theorem DPut.k {H:Hp} {a:Addr} {kvs:List (Key × V)} {k:Key} {v:V} (e:H a = some (.dK kvs)) (hl:kvs.length < sizeLine):DPut H a (kV k) v (upd H a (.dK (putK kvs k v))):=.inl ⟨kvs,k,e,rfl,hl,rfl⟩
section
variable {X:Cx} {pins:List (Addr × Obj)} {σ:St} {H:Hp} {s:Shared} {a:Addr} {y v:V} {u r:Value} {o:Option V} {A:Around} {E:Value→Shared→Prop}
theorem Inv.big (I:Inv X pins σ H s):sysModules < s.heap.objs.size:=by
  have h:mainGlobals < s.heap.objs.size:=(I.mod.glob.keeps I.bk).lt
  exact Nat.lt_trans (by decide) h
theorem d_getItem {Q:Value→Shared→Prop} (hu:A.units + 1 < cLine) (I:Inv X pins σ H s) (g:DGet H a y (some v)) (ry:RelV y u) (h:∀ w' s',Inv X pins σ H s'→RelV v w'→Q w' s') :
    wpAny (model X.prog X.w) A (getItem (.ref a) u) Q E s:=by
  rcases g with ⟨kvs,k,e,ey,l⟩ | ⟨kvs,k,b,e,ey,eb,l⟩
  · subst ey
    obtain ⟨z, hd, vs, rel, dd⟩ := dk_rd I.hok e
    obtain ⟨w',hw,rw'⟩:=RelO.some_of (v:=v) (o:=valueAt vs k) (by rw [l]; exact rel.val k)
    exact wpAny_getItem_of (kV_is ry) dd.mapOf hw (h w' _ (I.tok _) rw')
  · subst ey
    cases (show u = Value.ref b from ry)
    obtain ⟨z, hd, xs, rel, dd⟩ := dt_rd I.hok e
    obtain ⟨w',hw,rw'⟩:=RelO.some_of (v:=v) (o:=(atKey xs k).map (·.2)) (by rw [l]; exact rel.val k)
    obtain ⟨p, hp, hp2⟩ := Option.map_eq_some_iff.mp hw
    refine wpAny_getItem_heap (tupleKind_room_in1 hu) (key_of I.hok eb) dd hp ?_
    rw [hp2]
    exact h w' _ (I.tok _) rw'
theorem d_in {Q:Value→Shared→Prop} (hu:A.units + 1 < cLine) (I:Inv X pins σ H s) (g:DGet H a y o) (ry:RelV y u) (h:∀ s',Inv X pins σ H s'→Q (.bool o.isSome) s') :
    wpAny (model X.prog X.w) A (compareOp .In u (.ref a)) Q E s:=by
  rcases g with ⟨kvs,k,e,ey,l⟩ | ⟨kvs,k,b,e,ey,eb,l⟩
  · subst ey
    obtain ⟨z, hd, vs, rel, dd⟩ := dk_rd I.hok e
    refine wpAny_in_of (kV_is ry) hd dd.mapOf ?_
    rw [← (rel.val k).isSome_eq, ← l]
    exact h _ (I.tok _)
  · subst ey
    cases (show u = Value.ref b from ry)
    obtain ⟨z, hd, xs, rel, dd⟩ := dt_rd I.hok e
    refine wpAny_in_heap (tupleKind_room_in1 hu) (key_of I.hok eb) hd dd ?_
    have q := (rel.val k).isSome_eq
    rw [Option.isSome_map] at q
    rw [← q, ← l]
    exact h _ (I.tok _)
theorem d_notIn {Q:Value→Shared→Prop} (hu:A.units + 1 < cLine) (I:Inv X pins σ H s) (g:DGet H a y o) (ry:RelV y u) (h:∀ s',Inv X pins σ H s'→Q (.bool (!o.isSome)) s') :
    wpAny (model X.prog X.w) A (compareOp .NotIn u (.ref a)) Q E s:=by
  rcases g with ⟨kvs,k,e,ey,l⟩ | ⟨kvs,k,b,e,ey,eb,l⟩
  · subst ey
    obtain ⟨z, hd, vs, rel, dd⟩ := dk_rd I.hok e
    refine wpAny_notIn_of (kV_is ry) hd dd.mapOf ?_
    rw [← (rel.val k).isSome_eq, ← l]
    exact h _ (I.tok _)
  · subst ey
    cases (show u = Value.ref b from ry)
    obtain ⟨z, hd, xs, rel, dd⟩ := dt_rd I.hok e
    refine wpAny_notIn_heap (tupleKind_room_in1 hu) (key_of I.hok eb) hd dd ?_
    have q := (rel.val k).isSome_eq
    rw [Option.isSome_map] at q
    rw [← q, ← l]
    exact h _ (I.tok _)
theorem d_write {h':Heap} {t':Nat} {ob:HO} (I:Inv X pins σ H s) (mu:Mut (H a)) (hs:Heap.SameBut a s.heap h') (he:∃ q,h'.get? a = some q) (new:ObjOk X.prog X.w (upd H a ob) h' a ob) :
    Inv X pins σ (upd H a ob) { s with heap:=h',toks:=t' } :=
  I.write (x:=a) (e:=a) mu (.inl rfl) (fun b q hb z=>(hs.2 b hb).trans z) he new
theorem dk_new {P:Program} {w:World} {H':Hp} {h':Heap} {kvs:List (Key × V)} {vs:List (Key × Value)} (z:kvs.length ≤ sizeLine) (hd:(a == sysModules) = false) (rel:KV kvs vs) (dd:h'.DictOf (mixKind P w) a vs) :
    ObjOk P w H' h' a (.dK kvs) := ⟨z, hd, vs, rel, dd⟩
theorem d_setItem {H':Hp} {Q:Unit→Shared→Prop} (hu:A.units + 1 < cLine) (I:Inv X pins σ H s) (g:DPut H a y v H') (ry:RelV y u) (rv:RelV v r) (h:∀ s',Inv X pins σ H' s'→Q () s') :
    wpAny (model X.prog X.w) A (setItem (.ref a) u r) Q E s:=by
  rcases g with ⟨kvs,k,e,ey,l,eH⟩ | ⟨kvs,k,b,e,ey,eb,l,eH⟩
  · subst ey eH
    obtain ⟨z, hd, vs, rel, dd⟩ := dk_of I.hok e
    have hz:vs.length ≤ sizeLine:=by rw [← rel.length]; exact z
    have hl:(putK kvs k v).length ≤ sizeLine:=by have:=length_putK kvs k v; omega
    refine wpAny_setItem_pairs (hsz:=hz) (kV_is ry) dd fun h' dd' hs=>h _ ?_
    have he:∃ q,h'.get? a = some q:=let ⟨q,_,_,hq,_⟩:=dd'; ⟨q,hq⟩
    exact d_write I (by rw [e]; exact True.intro) hs he (dk_new hl hd (rel.put k rv) dd')
  · subst ey eH
    cases (show u = Value.ref b from ry)
    obtain ⟨z, hd, xs, rel, dd⟩ := dt_of I.hok e
    have hz:xs.length ≤ sizeLine:=by rw [← Paired.length rel]; exact z
    have hl:(putK kvs k v).length ≤ sizeLine:=by have:=length_putK kvs k v; omega
    refine wpAny_setItem_heap (hsz:=hz) (tupleKind_room_in1 hu) (key_of I.hok eb) dd fun h' dd' hs=>h _ ?_
    obtain ⟨q, es, ep, hq, h2, h3, h4, _, h5⟩ := dd'
    refine d_write I (by rw [e]; exact True.intro) hs ⟨q,hq⟩ ⟨hl,hd,_,(rel.put k eb rv).keeps fun c ys ec=>?_,q,es,ep,hq,h2,h3,h4,h5⟩
    rw [upd_ne (ne_of ec e (fun z => nomatch z))]
    exact ec
end
section
variable {X:Cx} {pins:List (Addr × Obj)} {σ:St} {H:Hp} {s:Shared} {a:Addr} {kvs:List (Key × V)} {k:Key} {u:Value} {A:Around} {E:Value→Shared→Prop}
theorem d_len {Q:Value→Shared→Prop} (I:Inv X pins σ H s) (e:Rd H a (.dK kvs)) (h:∀ t s',Inv X pins σ H s'→Q (.int kvs.length t) s'):wpAny (model X.prog X.w) A (call (.builtin "len") [.ref a]) Q E s:=by
  obtain ⟨z, hd, vs, rel, dd⟩ := dk_rd I.hok e
  refine call_len_dict hd dd (by rw [← rel.length]; rw [sizeLine_eq] at z; omega) ?_
  rw [← rel.length]
  exact h _ _ (I.tok _)
end
def NoSl (i:Expr):Prop:=∀ ov iv,subscripted i false ov iv = operate [ov,iv] (getItem ov iv)
theorem subD_of {prog:Program} {w:World} {A:Around} {E:Value→Shared→Prop} {s:Shared} {env:Env} {value slice:Expr} {pos:Pos} {T id:String} {Q:Value→Shared→Prop}
    (hl:typeLookup (.type T) "__getitem__" = pure (some (.builtin id))) (hs:NoSl slice)
    (h:wpAny (model prog w) A (eval value env) (fun o s₁=>wpAny (model prog w) A (eval slice env) (fun i s₂=>s₂.TypeIs o T∧wpAny (model prog w) A (getItem o i) Q E s₂) E s₁) E s) :
    wpAny (model prog w) A (eval (.Subscript value slice pos) env) Q E s:=by
  refine Subscript_ (wpAny_mono h (fun o s₁ h₁=>wpAny_mono h₁ (fun i s₂ h₂=>?_) fun _ _ x=>x) fun _ _ x=>x)
  obtain ⟨hT, h₂⟩ := h₂
  unfold subscriptTail
  refine wpAny_bind ?_
  rw [getitemInPython_of_ne hT.not_modules]
  refine wpAny_bind (wpAny_specialOf hT hl ?_)
  have fin:wpAny (model prog w) A (subscripted slice false o i) (fun r s₃=>wpAny (model prog w) A (letTemporaryGo value o r >>= fun _=>pure r) Q E s₃) E s₂:=by
    rw [hs o i]
    exact wpAny_operating (wpAny_mono h₂ (fun r s₃ h₃=>wpAny_bind (wpAny_letTemporaryGo (wpAny_pure h₃))) fun _ _ x=>x)
  first
    | exact wpAny_pure (wpAny_bind fin)
    | exact wpAny_bind (wpAny_pure (wpAny_bind fin))
    | exact wpAny_bind fin
theorem dict_typeIs {X:Cx} {pins:List (Addr × Obj)} {σ:St} {H:Hp} {s:Shared} {a:Addr} {y:V} {o:Option V} (I:Inv X pins σ H s) (g:DGet H a y o):s.TypeIs (.ref a) "dict":=by
  rcases g with ⟨kvs, k, e, _, _⟩ | ⟨kvs, k, b, e, _, _, _⟩
  · obtain ⟨_, _, vs, _, dd⟩ := dk_rd I.hok e
    exact dd.typeIs
  · obtain ⟨_, _, xs, _, dd⟩ := dt_rd I.hok e
    exact dd.typeIs
def tDGet (td ty:TE):TE:=fun σ H Q=>td σ H fun x H1=>ty σ H1 fun y H2=>∃ a v,x = .ref a∧DGet H2 a y (some v)∧Q v H2
def tDIn (ty td:TE):TE:=fun σ H Q=>ty σ H fun y H1=>td σ H1 fun x H2=>∃ a o,x = .ref a∧DGet H2 a y o∧Q (.bl o.isSome) H2
def tDNotIn (ty td:TE):TE:=fun σ H Q=>ty σ H fun y H1=>td σ H1 fun x H2=>∃ a o,x = .ref a∧DGet H2 a y o∧Q (.bl (!o.isSome)) H2
def sDPut (td ty tv:TE):TS:=fun D σ H=>tv σ H fun v H1=>td σ H1 fun x H2=>ty σ H2 fun y H3=>∃ a H4,x = .ref a∧DPut H3 a y v H4∧D.nx σ H4
section
variable {X:Cx} {o i e value:Expr} {pos pos' tpos:Pos} {td ty tv:TE}
theorem pe_dget (hu:X.A.units + 1 < cLine) (ho:PE X o td) (hi:PE X i ty) (hs:NoSl i):PE X (.Subscript o i pos) (tDGet td ty):=by
  intro pins s σ H Q I h
  refine subD_of PySem.F.slot_dict_getitem.lookup hs (thn (ho pins s σ H _ I h) fun u s1 ⟨x,H1,I1,rx,q1⟩=>thn (hi pins s1 σ H1 _ I1 q1) fun iv s2 ⟨y,H2,I2,ry,a,v,ex,g,q2⟩=>?_)
  subst ex
  obtain rfl : u = Value.ref a := rx
  exact ⟨dict_typeIs I2 g,d_getItem hu I2 g ry fun w' s3 I3 rw'=>⟨v,H2,I3,rw',q2⟩⟩
theorem pc_din (hu:X.A.units + 1 < cLine) (hi:PE X i ty) (ho:PE X o td):PC X .In i o (tDIn ty td):=by
  intro pins s σ H Q I h
  refine thn (hi pins s σ H _ I h) fun iv s1 ⟨y,H1,I1,ry,q1⟩=>thn (ho pins s1 σ H1 _ I1 q1) fun u s2 ⟨x,H2,I2,rx,a,ov,ex,g,q2⟩=>?_
  subst ex
  obtain rfl : u = Value.ref a := rx
  exact d_in hu I2 g ry fun s3 I3=>⟨.bl ov.isSome,H2,I3,rfl,q2⟩
theorem pc_dnotin (hu:X.A.units + 1 < cLine) (hi:PE X i ty) (ho:PE X o td):PC X .NotIn i o (tDNotIn ty td):=by
  intro pins s σ H Q I h
  refine thn (hi pins s σ H _ I h) fun iv s1 ⟨y,H1,I1,ry,q1⟩=>thn (ho pins s1 σ H1 _ I1 q1) fun u s2 ⟨x,H2,I2,rx,a,ov,ex,g,q2⟩=>?_
  subst ex
  obtain rfl : u = Value.ref a := rx
  exact d_notIn hu I2 g ry fun s3 I3=>⟨.bl (!ov.isSome),H2,I3,rfl,q2⟩
theorem ps_dput (hu:X.A.units + 1 < cLine) (ho:PE X o td) (hi:PE X i ty) (hv:PE X value tv) (hs:swapsWith value (some (.Subscript o i pos')) pos.line X.env = pure false) :
    PS X (.Assign [.Subscript o i pos'] value pos) (sDPut td ty tv):=by
  intro pins s σ H D I h
  refine wpAny_Assign_Subscript (thn (hv pins s σ H _ I h) fun r s1 ⟨v,H1,I1,rv,q1⟩=>thn (ho pins s1 σ H1 _ I1 q1) fun u s2 ⟨x,H2,I2,rx,q2⟩=>thn (hi pins s2 σ H2 _ I2 q2) fun iv s3 ⟨y,H3,I3,ry,a,H4,ex,g,q3⟩=>?_) hs
  subst ex
  obtain rfl : u = Value.ref a := rx
  exact d_setItem hu I3 g ry rv fun s4 I4 => ⟨σ, H4, I4, q3⟩
end
theorem dk_empty {P:Program} {w:World} {H:Hp} (h:Heap) (hb:sysModules < h.objs.size):ObjOk P w H (h.push { cls:=.type "dict",data:=.dict #[] }) h.objs.size (.dK []) :=
  ⟨Nat.zero_le _,beq_eq_false_iff_ne.mpr (Ne.symm (Nat.ne_of_lt hb)),[],.nil,Heap.DictOf.new h⟩
def tDNewK:TE:=fun _ H Q=>∀ p,H p = none→Q (.ref p) (upd H p (.dK []))
section
variable {X : Cx} {pos : Pos}
theorem pe_dnewK:PE X (.Dict [] [] pos) tDNewK:=fun pins s σ H Q I h =>
  wpAny_Dict_empty ⟨.ref s.heap.objs.size,_,I.laid (a:=s.heap.objs.size) (o:=.dK []) (t':=s.toks) (fun _ _ q=>Heap.get?_push_of_some _ q) (Nat.le_refl _) (dk_empty s.heap I.big),rfl,h _ (I.hok.fresh (Nat.le_refl _))⟩
end
structure M1 (X:Cx) (o:Expr) (m:Str) (apos:Pos) (e:Expr) (cpos:Pos):Prop where
  base:attributeBase o m X.env (eval o X.env) = eval o X.env
  few:((backTo cpos (starEach [e] X.env)).all (fun x=>!x.1) && (backToKw cpos (keywordEach [] X.env)).all (fun x=>x.1.isSome)
    && decide (([e]:List Expr).length + ([]:List Keyword).length + (if ([]:List Keyword).isEmpty then 0 else 1) < 30)) = true
  line : (apos.endLine == cpos.line) = true
  trees:backTo cpos (starEach [e] X.env) = [(false,eval e X.env)]
structure M2 (X:Cx) (o:Expr) (m:Str) (apos:Pos) (e f:Expr) (cpos:Pos):Prop where
  base:attributeBase o m X.env (eval o X.env) = eval o X.env
  few:((backTo cpos (starEach [e,f] X.env)).all (fun x=>!x.1) && (backToKw cpos (keywordEach [] X.env)).all (fun x=>x.1.isSome)
    && decide (([e,f]:List Expr).length + ([]:List Keyword).length + (if ([]:List Keyword).isEmpty then 0 else 1) < 30)) = true
  line : (apos.endLine == cpos.line) = true
  trees:backTo cpos (starEach [e,f] X.env) = [(false,eval e X.env),(false,eval f X.env)]
def IsD (H:Hp) (a:Addr):Prop:=(∃ kvs,Rd H a (.dK kvs)) ∨ ∃ kvs,Rd H a (.dT kvs)
theorem isD_at {X:Cx} {pins:List (Addr × Obj)} {σ:St} {H:Hp} {s:Shared} {a:Addr} (I:Inv X pins σ H s) (d:IsD H a) :
    s.TypeIs (.ref a) "dict"∧(∀ b,Value.ref a = .ref b→∃ ob,s.heap.get? b = some ob∧ob.dict = none)∧(a == sysModules) = false:=by
  rcases d with ⟨kvs, e⟩ | ⟨kvs, e⟩
  · obtain ⟨_, hd, vs, _, dd⟩ := dk_rd I.hok e
    refine ⟨dd.typeIs, fun b q => ?_, hd⟩
    cases q
    obtain ⟨ob, _, _, h1, h2, _⟩ := dd
    exact ⟨ob, h1, h2.2.1⟩
  · obtain ⟨_, hd, xs, _, dd⟩ := dt_rd I.hok e
    refine ⟨dd.typeIs, fun b q => ?_, hd⟩
    cases q
    obtain ⟨ob, _, _, h1, h2, _⟩ := dd
    exact ⟨ob, h1, h2.2.1⟩
section
variable {X:Cx} {pins:List (Addr × Obj)} {σ:St} {H:Hp} {s:Shared} {a:Addr} {y d:V} {u r:Value} {o:Option V} {A:Around} {E:Value→Shared→Prop}
theorem d_get2 {Q:Value→Shared→Prop} (hu:A.units + 1 < cLine) (I:Inv X pins σ H s) (g:DGet H a y o) (ry:RelV y u) (rd:RelV d r) (h:∀ w' s',Inv X pins σ H s'→RelV (o.getD d) w'→Q w' s') :
    wpAny (model X.prog X.w) A (call (.builtin "dict.get") [.ref a,u,r]) Q E s:=by
  rcases g with ⟨kvs,k,e,ey,l⟩ | ⟨kvs,k,b,e,ey,eb,l⟩
  · subst ey
    obtain ⟨z, hd, vs, rel, dd⟩ := dk_rd I.hok e
    refine call_meetsIn PySem.F.slot_dict_get dd.typeIs PySem.F.entry_dict_get (PySem.F.args_dict_get_3 _ _ _) (meets_dict_get_default (mixKind X.prog X.w) a (kV_is ry) hd r) ⟨_,dd.mapOf,h _ _ (I.tok _) ?_⟩
    rw [l]
    exact (rel.val k).getD rd
  · subst ey
    cases (show u = Value.ref b from ry)
    obtain ⟨z, hd, xs, rel, dd⟩ := dt_rd I.hok e
    refine call_meetsIn PySem.F.slot_dict_get dd.typeIs PySem.F.entry_dict_get (PySem.F.args_dict_get_3 _ _ _) (meetsH_dict_get_default (tupleKind (mixKind X.prog X.w)) a b hd r) ⟨tupleKind_room_in1 hu,k,xs,key_of I.hok eb,dd,h _ _ (I.tok _) ?_⟩
    rw [l]
    exact (rel.val k).getD rd
end
def tDGet2 (td ty tx:TE):TE:=fun σ H Q=>td σ H fun x H1=>∃ a,x = .ref a∧IsD H1 a∧ty σ H1 fun y H2=>tx σ H2 fun z H3=>∃ o,DGet H3 a y o∧Q (o.getD z) H3
section
variable {X:Cx} {o e f:Expr} {apos cpos:Pos} {td ty tx:TE}
theorem pe_dget2 (hu:X.A.units + 1 < cLine) (ho:PE X o td) (he:PE X e ty) (hf:PE X f tx) (m:M2 X o "get" apos e f cpos):PE X (.Call (.Attribute o "get" apos) [e,f] [] cpos) (tDGet2 td ty tx):=by
  intro pins s σ H Q I h
  refine wpAny_Call_method m.base m.few m.line PySem.F.plainAttrs_dict PySem.F.slot_dict_get PySem.F.type_dict_get (thn (ho pins s σ H _ I h) fun u s1 ⟨x,H1,I1,rx,a,ex,d,q1⟩=>?_)
  subst ex
  obtain rfl : u = Value.ref a := rx
  obtain ⟨t1, t2, _⟩ := isD_at I1 d
  refine ⟨t1, t2, ?_⟩
  rw [m.trees]
  refine Calls.callWith_builtin rfl (Calls.evalArgs_plain (Calls.spliced_cons (thn (he pins s1 σ H1 _ I1 q1) fun iv s2 ⟨y,H2,I2,ry,q2⟩ =>
    Calls.spliced_cons (thn (hf pins s2 σ H2 _ I2 q2) fun fv s3 ⟨z,H3,I3,rz,ov,g,q3⟩=>Calls.spliced_nil ?_))))
  exact d_get2 hu I3 g ry rz fun w' s4 I4 rw'=>⟨_,H3,I4,rw',q3⟩
end
section
variable {X:Cx} {pins:List (Addr × Obj)} {σ:St} {H:Hp} {s:Shared} {a:Addr} {kvs:List (Key × V)} {A:Around} {E:Value→Shared→Prop}
end
section
variable {X:Cx} {pins:List (Addr × Obj)} {σ:St} {H:Hp} {s:Shared} {a:Addr} {y:V} {u:Value} {A:Around} {E:Value→Shared→Prop}
end
end L2
namespace L2
open PySem PySem.Spec PyProof.Rows
section
variable {X : Cx}
theorem call_lenD:CallR X (.builtin "len") (fun xs H Q=>∃ a kvs,xs = [V.ref a]∧H a = some (.dK kvs)∧Q (.int kvs.length) H):=by
  intro pins s σ H xs us Q I r h
  obtain ⟨a, kvs, rfl, ha, q⟩ := h
  obtain ⟨u, rfl, ru⟩ := vals1 r
  cases ru
  exact d_len I (.inl ha) fun t s' I'=>⟨.int kvs.length,H,I',⟨t,rfl⟩,q⟩
end
section
variable {κ : Type} [DecidableEq κ]
end
end L2
end
section
set_option Elab.async false
set_option linter.all false
set_option maxRecDepth 100000
set_option maxHeartbeats 4000000
namespace Lw
open PySem PySem.Spec PyProof.Rows L2
theorem obj_some {P:Program} {w:World} {H:Hp} {h:Heap} {a:Addr} {o:HO} (x:ObjOk P w H h a o):∃ u,h.get? a = some u:=by
  cases o with
  | lst xs => obtain ⟨_, _, _, _, e⟩ := x; exact ⟨_, e⟩
  | tup xs => obtain ⟨_, _, _, o, e, _⟩ := x; exact ⟨_, e⟩
  | dK kvs=>obtain ⟨_,_,_,_,o,_,_,e,_⟩:=x; exact ⟨_,e⟩
  | dT kvs=>obtain ⟨_,_,_,_,o,_,_,e,_⟩:=x; exact ⟨_,e⟩
  | set S n => obtain ⟨o, _, _, _, e, _⟩ := x; exact ⟨_, e⟩
  | ins C dx fs => obtain ⟨_, _, _, e, _⟩ := x; exact ⟨_, e⟩
  | own y => exact x
  | xd fs=>obtain ⟨_,⟨_,_,_,e,_⟩,_⟩:=x; exact ⟨_,e⟩
  | rng lo hi => obtain ⟨_, _, _, e⟩ := x; exact ⟨_, e⟩
  | frz ob u => exact ⟨_, x.1⟩
  | tbl ps => exact ⟨_, x⟩
  | met f y => exact ⟨_, x⟩
  | ext φ => exact x.2.1
structure Fly (P:Program) (w:World) (outer:List Env) (H:Hp) (s:Shared) (H':Hp) (a:Addr) (cls:Value) (B:Heap) (a0:Value) (s':Shared):Prop where
  os : s'.os = s.os
  bare : AllBare s'.gens
  un : Un (frs outer) [] H H' s.heap s'.heap
  hok : HOk P w H' s'.heap
  fresh : s.heap.get? a = none
  free : H' a = none
  fly : Heap.FlyingW B outer a cls a0 s'.heap
  trk:∀ b o,H' b ≠ none→s'.heap.get? b = some o→B.get? b = some o
  old:∀ b o,s.heap.get? b = some o→H b = none→b ∉ frs outer→B.get? b = some o
  any:∀ b o,s.heap.get? b = some o→b ∉ frs outer→∃ o',B.get? b = some o'
section
variable {P:Program} {w:World} {outer:List Env} {H H':Hp} {s s':Shared} {a:Addr} {cls a0:Value} {B h5:Heap}
end
structure DefCx (X : Cx) : Prop where
  stk : X.stack = X.env :: X.outer
  fr : X.env.frame = some X.env.locals
  ex : X.ex = []
section
variable {X:Cx} {pins:List (Addr × Obj)} {σ:L2.St} {H H':Hp} {s s':Shared} {M:Model} {E:Value→Shared→Prop} {Q:Unit→Shared→Prop}
theorem not_stk (I:Inv X pins σ H s) {b:Addr} {o:Obj} (e:X.s₀.heap.get? b = some o) (hb:b ∉ X.fs):b ∉ frs X.stack:=fun z=>by
  rcases List.mem_cons.mp (I.stkSub b z) with q | q
  · subst q
    exact Nat.lt_irrefl _ (Nat.lt_of_lt_of_le (Heap.lt_size e) I.ok.above)
  · exact hb q
theorem fresh_of (D:DefCx X) (I:Inv X pins σ H s) {a:Addr} (n:s.heap.get? a = none):X.s₀.heap.get? a = none:=by
  cases q : X.s₀.heap.get? a with
  | none => rfl
  | some o =>
    obtain ⟨o',e⟩:=I.base.there a o q (by rw [D.ex]; simp)
    rw [n] at e
    cases e
theorem fly_made {h':Heap} {e:Addr} {cls:Value} {vs:List Value} (D:DefCx X) (I:Inv X pins σ H s) (hx:Heap.MadeExcOf s.heap h' e cls vs)
    (k:∀ s'' B a0,Fly X.prog X.w X.outer X.H₀ X.s₀ H e cls B a0 s''→Q () s''):wpAny M X.A (leaving X.env (.ref e)) Q E { s with heap:=h' }:=by
  have hfr:X.A.frames = some (X.env :: X.outer):=by rw [I.ok.frames,D.stk]
  have hex:∀ b:Addr,b ∉ X.ex:=fun b=>by rw [D.ex]; simp
  have hB:∀ b o,s.heap.get? b = some o→b ∉ frs X.stack→(PySem.W.hideAll s.heap (frs X.stack)).get? b = some o:=fun b o q nm=>PySem.W.hideAll_get _ q nm
  have hl:s.heap.FunFrames (PySem.W.hideAll s.heap (frs X.stack)) (X.env :: X.outer):=by
    have z:=PySem.W.funFrames_hide (as:=frs X.stack) I.stack fun env he b hb=>List.mem_filterMap.mpr ⟨env,he,hb⟩
    rw [D.stk] at z ⊢
    exact z
  have tn:∀ b,H b ≠ none→b ∉ frs X.stack:=fun b n z=>n (I.stkFree b z)
  refine wpAny_leaves_madeW (s:={ s with heap:=h' }) hfr D.fr (fun b o q=>PySem.W.of_hideAll _ q) hl hx fun h5 t f5 _ _ u5=>k _ (PySem.W.hideAll s.heap (frs X.stack)) (.ref t) ?_
  have St := f5.1
  have un5 : Un (frs X.stack) [] H H s.heap h5 := by
    have sl:∀ b o,s.heap.get? b = some o→b ∈ frs X.stack→∃ sl,h5.get? b = some { o with slots:=sl }:=fun b o e hb=>by
      obtain ⟨_, o', e', nf⟩ := I.stack.mem hb
      rw [e] at e'
      cases e'
      exact u5 b o (hx.keeps b o e) nf
    refine ⟨fun b o e n hb _=>St b o (hB b o e hb),fun b o e n hb _=>sl b o e hb,fun _ _ _ n _=>n,fun b o e _=>?_,fun _ _ q=>q,fun _ _ _ q=>q,fun b ps q=>⟨#[],by rw [q]; simp⟩⟩
    by_cases hb : b ∈ frs X.stack
    · obtain ⟨z, e1⟩ := sl b o e hb
      exact ⟨_, e1⟩
    · exact ⟨o, St b o (hB b o e hb)⟩
  have hok5 : HOk X.prog X.w H h5 := fun b u e => by
    refine (I.hok b u e).stay (fun c v hc q=>St c v (hB c v q (tn c ?_))) (fun _ q=>q) fun _ _ q=>q
    rcases hc with z | z
    · rw [z, e]; simp
    · rw [z]; simp
  have I5:Inv X pins σ H { s with heap:=h5 }:=I.call' (s':={ s with heap:=h5 }) (ch:=[]) rfl un5 hok5 I.bare fun b hb=>absurd hb (by simp)
  refine ⟨I5.os,I5.bare,?_,hok5,fresh_of D I hx.new,?_,f5,fun b o n q=>?_,fun b o e n hb=>?_,fun b o e hb=>?_⟩
  · have u := I5.base
    rw [D.ex] at u
    exact u
  · cases q : H e with
    | none => rfl
    | some u =>
      obtain ⟨o, z⟩ := obj_some (I.hok e u q)
      rw [hx.new] at z
      cases z
  · cases z : H b with
    | none => exact absurd z n
    | some u =>
      obtain ⟨o1, e1⟩ := obj_some (I.hok b u z)
      have e2 := hB b o1 e1 (tn b n)
      have e3 := St b o1 e2
      have q' : h5.get? b = some o := q
      rw [q'] at e3
      cases e3
      exact e2
  · exact hB b o (I.base.keep b o e n hb (hex b)) (not_stk I e hb)
  · obtain ⟨o1, e1⟩ := I.base.there b o e (hex b)
    exact ⟨o1, hB b o1 e1 (not_stk I e hb)⟩
end
def CXE (P:Program) (w:World):CXT:=fun outer H s E e s'=>∃ a cls H' B a0,e = .ref a∧Fly P w outer H s H' a cls B a0 s'∧E cls none H'
theorem cxe0 {P:Program} {w:World} {outer:List Env} {H:Hp} {s s':Shared} {e:Value} (h:CXE P w outer H s (fun _ _ _=>False) e s'):False:=by
  obtain ⟨_, _, _, _, _, _, _, z⟩ := h
  exact z
theorem passX0 {X:Cx}:Passes (CXE X.prog X.w) X E0:=fun _ _ _ _ _ _ _ h=>(cxe0 h).elim
section
variable {P:Program} {w:World} {K:PySem.W.Frag} {mg:Str→Option Value} {base:Heap} {N:List Str} {qual:Str} {scope:Scope} {f:Addr} {cd:Value} {A:Around} {outer:List Env} {s₀:Shared} {H₀:Hp} {E:XK}
theorem raiseX {pins:List (Addr × Obj)} {σ:L2.St} {H:Hp} {s:Shared} {h':Heap} {e:Addr} {cls:Value} {vs:List Value} (I:Inv (cxOf (CXE P w) P w K mg base N qual scope f cd A outer s₀ H₀ E) pins σ H s) (hx:Heap.MadeExcOf s.heap h' e cls vs) (q:E cls none H) :
    (cxOf (CXE P w) P w K mg base N qual scope f cd A outer s₀ H₀ E).xe (.ref e) { s with heap:=h' } :=
  fly_made (X:=cxOf (CXE P w) P w K mg base N qual scope f cd A outer s₀ H₀ E) ⟨rfl,rfl,rfl⟩ I hx fun s'' B a0 F'=>⟨e,cls,H,B,a0,rfl,F',q⟩
end
end Lw
end
section
set_option Elab.async false
set_option linter.all false
set_option maxRecDepth 100000
set_option maxHeartbeats 4000000
namespace Lw
open PySem PySem.Spec PyProof.Rows L2
def Br (b:Bool) (A B:Prop):Prop:=(b = true→A)∧(b = false→B)
theorem br_eq (b:Bool) (A B:Prop):Br b A B = (if b = true then A else B):=by
  unfold Br
  cases b <;> simp
def dVar (i : Nat) : TE := fun σ H Q => match σ[i]? with
  | some (some v) => Q v H
  | _ => False
theorem dVar_eq (i : Nat) : dVar i = tVar i := by
  funext σ H Q
  apply propext
  unfold dVar tVar
  cases h : σ[i]? with
  | none => simp
  | some o => cases o <;> simp
def dI (C:Int→Int→Prop) (g:Int→Int→V):R2:=fun x y H Q=>match x,y with
  | .int i, .int j => C i j ∧ Q (g i j) H
  | _, _ => False
def dI0 (g:Int→Int→V):R2:=fun x y H Q=>match x,y with
  | .int i, .int j => Q (g i j) H
  | _, _ => False
def dU (g:Int→V):V→Hp→VK→Prop:=fun x H Q=>match x with
  | .int i => Q (g i) H
  | _ => False
def dTest (t:TE):TT:=fun σ H Q=>t σ H fun x H'=>match x with
  | .bl k => Q k H'
  | _ => False
theorem dTest_eq (t : TE) : dTest t = tTest t := by
  funext σ H Q
  unfold dTest tTest
  congr 1
  funext x H'
  apply propext
  cases x <;> simp
theorem dTest_eqB (t : TE) : dTest t = tB t := dTest_eq t
def dAnd (t u:TT):TT:=fun σ H Q=>t σ H fun c H1=>Br c (u σ H1 Q) (Q false H1)
def dOr (t u:TT):TT:=fun σ H Q=>t σ H fun c H1=>Br c (Q true H1) (u σ H1 Q)
theorem dAnd_eq (t u : TT) : dAnd t u = tAnd t u := by
  funext σ H Q
  unfold dAnd tAnd
  simp only [br_eq]
theorem dOr_eq (t u : TT) : dOr t u = tOr t u := by
  funext σ H Q
  unfold dOr tOr
  simp only [br_eq]
def dAndV (ta tb:TE):TE:=fun σ H Q=>ta σ H fun x H1=>match x with
  | .bl c => Br c (tb σ H1 Q) (Q (.bl false) H1)
  | _ => False
def dNotV (ta:TE):TE:=fun σ H Q=>ta σ H fun x H1=>match x with
  | .bl c => Q (.bl (!c)) H1
  | _ => False
theorem dAndV_eq (t u : TE) : dAndV t u = tAndV t u := by
  funext σ H Q
  unfold dAndV tAndV
  congr 1
  funext x H'
  apply propext
  cases x <;> simp [br_eq]
theorem dNotV_eq (t : TE) : dNotV t = tNotV t := by
  funext σ H Q
  unfold dNotV tNotV
  congr 1
  funext x H'
  apply propext
  cases x <;> simp
def dIfS (c:TT) (t u:TS):TS:=fun D σ H=>c σ H fun b H1=>Br b (t D σ H1) (u D σ H1)
theorem dIfS_eq (c:TT) (t u:TS):dIfS c t u = tIfS c t u:=by
  funext D σ H
  unfold dIfS tIfS
  simp only [br_eq]
def dIf (t:TT) (ta tb:TE):TE:=fun σ H Q=>t σ H fun c H1=>Br c (ta σ H1 Q) (tb σ H1 Q)
theorem dIf_eq (c:TT) (t u:TE):dIf c t u = tIf c t u:=by
  funext D σ H
  unfold dIf tIf
  simp only [br_eq]
section
variable {X:Cx} {a b c:Expr} {ta tb tc:TE} {pos:Pos} {tA tB':TT} {rest:List Expr}
theorem dv (i:Nat) {x:Str} {pos:Pos} (hN:X.N[i]? = some x:=by rfl) (hv:Vis X.env.scope x:=by first | exact Or.inl rfl | exact Or.inr (Or.inl rfl) | exact Or.inr (Or.inr rfl)) (hd:(x == ("__debug__":Str)) = false:=by decide)
    (hcd:(x == ("__classdict__":Str)) = false:=by decide):PE X (.Name x pos) (dVar i):=by
  rw [dVar_eq]
  exact pe_var hN hv hd hcd
theorem opD {f:Value→Value→Sem Value} {C:Int→Int→Prop} {g:Int→Int→V} (h:OpR X f (rI C g)):OpR X f (dI C g):=by
  intro pins s σ H x y v u Q I rx ry q
  cases x <;> cases y <;> first
    | exact False.elim q
    | exact h _ _ _ _ _ _ _ _ _ I rx ry ⟨_,_,rfl,rfl,q.1,q.2⟩
theorem opD0 {f:Value→Value→Sem Value} {g:Int→Int→V} (h:OpR X f (rI0 g)):OpR X f (dI0 g):=by
  intro pins s σ H x y v u Q I rx ry q
  cases x <;> cases y <;> first
    | exact False.elim q
    | exact h _ _ _ _ _ _ _ _ _ I rx ry ⟨_, _, rfl, rfl, q⟩
theorem unD {f:Value→Sem Value} {g:Int→V} (h:UnR X f (rU g)):UnR X f (dU g):=by
  intro pins s σ H x v Q I rx q
  cases x <;> first
    | exact False.elim q
    | exact h _ _ _ _ _ _ _ I rx ⟨_, rfl, q⟩
def Bd (n : Nat) (x : Int) : Prop := x.natAbs < 2 ^ n
theorem Bd.bits {n:Nat} {x:Int} (h:Bd n x):Builtin.Int.intBits x ≤ n:=intBits_le_iff.mpr h
def COk (i j:Int):Prop:=(Bd 4000 i∧Bd 4000 j) ∨ CMul i j
theorem COk.ok {i j:Int} (h:COk i j):IntMulOk i j:=by
  rcases h with ⟨h1, h2⟩ | h
  · exact PySem.IntMulOk.of_bits (Nat.le_trans h1.bits (by decide)) (Nat.le_trans h2.bits (by decide))
  · exact h.ok
theorem pow_log {n:Nat} {x:Int} (h:Bd n x) (h0:0 < n):x.natAbs.log2 < n:=by
  by_cases z : x.natAbs = 0
  · rw [z]
    simpa using h0
  · exact (Nat.log2_lt z).mpr h
theorem o_add:OpR X (binaryOp .Add) (dI0 fun i j=>.int (i + j)):=opD0 op_add
theorem o_sub:OpR X (binaryOp .Sub) (dI0 fun i j=>.int (i - j)):=opD0 op_sub
theorem o_mul:OpR X (binaryOp .Mult) (dI COk fun i j=>.int (i * j)):=opD (opI fun _ _ _ _ _ _ _ hc q=>mul_int q hc.ok)
theorem o_div:OpR X (binaryOp .FloorDiv) (dI (fun _ j=>0 < j∧Bd 4000 j) fun i j=>.int (i / j)):=opD (opI fun i j _ _ _ _ _ hc q=>by
  have h1 : (0 : Int) < j := hc.1
  exact floordiv_int (by omega) (by rw [Int.fdiv_eq_ediv_of_nonneg i (by omega)]; exact q) (.inl (PyProof.noPylong_of_log2 (Nat.lt_trans (pow_log hc.2 (by decide)) (by decide)))))
theorem o_divN:OpR X (binaryOp .FloorDiv) (dI (fun _ j=>j ≠ 0∧Bd 4000 j) fun i j=>.int (i.fdiv j)):=opD (opI fun i j _ _ _ _ _ hc q=>by
  exact floordiv_int hc.1 q (.inl (PyProof.noPylong_of_log2 (Nat.lt_trans (pow_log hc.2 (by decide)) (by decide)))))
theorem o_mod:OpR X (binaryOp .Mod) (dI (fun _ j=>0 < j) fun i j=>.int (i % j)):=opD op_mod
theorem o_modN:OpR X (binaryOp .Mod) (dI (fun _ j=>j ≠ 0) fun i j=>.int (i.fmod j)):=opD op_modN
theorem o_pow:OpR X (binaryOp .Pow) (dI CPow fun i j=>.int (i ^ j.toNat)):=opD op_pow
theorem o_lt:OpR X (compareOp .Lt) (dI0 fun i j=>.bl (decide (i < j))):=opD0 op_lt
theorem o_le:OpR X (compareOp .LtE) (dI0 fun i j=>.bl (decide (i ≤ j))):=opD0 op_le
theorem o_gt:OpR X (compareOp .Gt) (dI0 fun i j=>.bl (decide (j < i))):=opD0 op_gt
theorem o_ge:OpR X (compareOp .GtE) (dI0 fun i j=>.bl (decide (j ≤ i))):=opD0 op_ge
theorem u_neg:UnR X (unaryOp .USub) (dU fun i=>.int (-i)):=unD un_neg
def dEq : R2 := fun x y H Q => match x, y with
  | .int i, .int j => Q (.bl (decide (i = j))) H
  | .bl i, .bl j => Q (.bl (i == j)) H
  | .str i, .str j => Q (.bl (decide (i = j))) H
  | _, _ => False
def dNe : R2 := fun x y H Q => match x, y with
  | .int i, .int j => Q (.bl (!decide (i = j))) H
  | .bl i, .bl j => Q (.bl (i != j)) H
  | .str i, .str j => Q (.bl (!decide (i = j))) H
  | _, _ => False
theorem o_eq : OpR X (compareOp .Eq) dEq := by
  intro pins s σ H x y v u Q I rx ry q
  cases x <;> cases y <;> first
    | exact False.elim q
    | (refine op_eq _ _ _ _ _ _ _ _ _ I rx ry ⟨rfl, ?_⟩
       have e:∀ (i j:Int),decide (V.int i = V.int j) = decide (i = j):=fun i j=>by simp
       have e2:∀ (i j:Str),decide (V.str i = V.str j) = decide (i = j):=fun i j=>by simp
       first
         | (rw [e]; exact q)
         | (rw [e2]; exact q)
         | (rw [dec_bl]; exact q))
theorem o_ne : OpR X (compareOp .NotEq) dNe := by
  intro pins s σ H x y v u Q I rx ry q
  cases x <;> cases y <;> first
    | exact False.elim q
    | (refine op_ne _ _ _ _ _ _ _ _ _ I rx ry ⟨rfl, ?_⟩
       have e:∀ (i j:Int),decide (V.int i = V.int j) = decide (i = j):=fun i j=>by simp
       have e2:∀ (i j:Str),decide (V.str i = V.str j) = decide (i = j):=fun i j=>by simp
       first
         | (rw [e]; exact q)
         | (rw [e2]; exact q)
         | (rw [dec_bl]; exact q))
theorem t_cmp {op:CmpOp} {r:R2} (ho:OpR X (compareOp op) r) (ha:PE X a ta) (hb:PE X b tb) (hm:behindInMarks op b = false):PT X (.Compare a [op] [b] pos) (dTest (tOp r ta tb)):=by
  rw [dTest_eq]
  exact pt_cmpR ho ha hb hm
theorem t_val {e:Expr} {t:TE} (h:PE X e t) (he:∀ whole,isTrue e X.env whole = (do let v ← whole; standAt e.pos; holding [v] (truthy v)):=by intro _; rfl):PT X e (dTest t):=by
  rw [dTest_eqB]
  exact pt_val h he
theorem w_and (ha:PT X a tA) (hb:PW X (.BoolOp .And (b :: rest) pos) tB'):PW X (.BoolOp .And (a :: b :: rest) pos) (dAnd tA tB'):=by
  rw [dAnd_eq]
  exact pw_and ha hb
theorem w_or (ha:PT X a tA) (hb:PW X (.BoolOp .Or (b :: rest) pos) tB'):PW X (.BoolOp .Or (a :: b :: rest) pos) (dOr tA tB'):=by
  rw [dOr_eq]
  exact pw_or ha hb
theorem e_and (ha:PE X a ta) (hb:PE X (.BoolOp .And (b :: rest) pos) tb):PE X (.BoolOp .And (a :: b :: rest) pos) (dAndV ta tb):=by
  rw [dAndV_eq]
  exact pe_and ha hb
theorem e_not (ha:PE X a ta):PE X (.UnaryOp .Not a pos) (dNotV ta):=by
  rw [dNotV_eq]
  exact pe_not ha
theorem e_if {c:Expr} (hc:PT X c tA) (ha:PE X a ta) (hb:PE X b tb):PE X (.IfExp c a b pos) (dIf tA ta tb):=by
  rw [dIf_eq]
  exact pe_ifExp hc ha hb
theorem s_if {c:Expr} {a b:List Stmt} {tc:TT} {t u:TS} (hc:PT X c tc) (ha:PSs X a t) (hb:PSs X b u):PS X (.If c a b pos) (dIfS tc t u):=by
  rw [dIfS_eq]
  exact ps_if hc ha hb
def tCut (R:L2.St→Hp→Prop) (t u:TS):TS:=fun D σ H=>t { D with nx:=R } σ H∧∀ σ' H',R σ' H'→u D σ' H'
theorem ss_cut (R:L2.St→Hp→Prop) {st:Stmt} {r:List Stmt} {t u:TS} (h1:PS X st t) (h2:PSs X r u):PSs X (st :: r) (tCut R t u):=by
  intro pins s σ H D I h
  refine wpAny_execs_cons (thn (h1 pins s σ H { D with nx:=R } I h.1) fun f s1 q=>?_)
  cases f with
  | next =>
    obtain ⟨σ', H', I', q⟩ := q
    exact h2 pins s1 σ' H' D I' (h.2 σ' H' q)
  | ret v => exact q
  | brk => exact q
  | cont => exact q
structure Cal (P:Program) (w:World) (K:PySem.W.Frag) (mg:Str→Option Value) (base:Heap) (x:Str) (ps:List Str) (k:Nat) (sp:Sp):Prop where
  ex:∃ (f:Addr) (fd:FuncData),mg x = some (.ref f)∧PySem.W.keepIn K (.ref f) = true∧Binds K fd ps []∧FnOk P w K mg base (CXE P w) k f fd ps sp ∧
    ∃ (oc:Value) (od:Option Addr) (osl:Array (Option Value)),K.lookup f = some ⟨oc,od,.func fd,osl⟩
def dCall (sp:Sp) (t:TA):TE:=fun σ H Q=>t σ H fun vs H1=>sp vs H1 Q E0
theorem dCall_eq (sp:Sp) (t:TA):dCall sp t = tCall sp [] E0 t:=by
  funext σ H Q
  unfold dCall tCall
  simp only [List.append_nil]
theorem e_call {x:Str} {ps:List Str} {k k':Nat} {sp:Sp} {p:Pos} {e:Expr} {es:List Expr} {t:TA} (C:Cal X.prog X.w X.K X.mg X.base x ps k sp) (hr:Room k' X.A) (hk:k ≤ k') (hg:Gl X x)
    (ha:PA X (e :: es) t) (hdb:(x == ("__debug__":Str)) = false:=by decide) (he:starEach (e :: es) X.env = (false,eval e X.env) :: starEach es X.env:=by rfl) (hpl:(backTo pos (starEach es X.env)).any (·.1) = false:=by rfl) :
    PE X (.Call (.Name x p) (e :: es) [] pos) (dCall sp t):=by
  obtain ⟨f, fd, h1, h2, h3, h4, _⟩ := C.ex
  rw [dCall_eq]
  exact pe_call (h4.mono hk) hr hg h1 h2 h3 .nil passX0 ha hdb he hpl
def lenOk (xs : List V) : Bool := Nat.ble xs.length 1000
theorem lenOk_le {xs:List V} (h:lenOk xs = true):xs.length ≤ sizeLine:=Nat.le_trans (Nat.le_of_ble_eq_true h) (by decide)
def dTup (t:TA):TE:=fun σ H Q=>t σ H fun xs H1=>match lenOk xs with
  | true=>∀ p H',Same H1 H'→H' p = some (.tup xs)→Q (.ref p) H'
  | false => False
def dLst (t:TA):TE:=fun σ H Q=>t σ H fun xs H1=>match lenOk xs with
  | true=>∀ p H',Same H1 H'→H' p = some (.lst xs)→Q (.ref p) H'
  | false => False
theorem same_upd {H:Hp} {p:Addr} {o:HO} (h:H p = none):Same H (upd H p o):=fun b u e=>by
  rw [upd_ne (ne_of_none e h)]
  exact e
theorem e_tup {es:List Expr} {t:TA} {x1} (h:PA X es t):PE X (.Tuple es x1 pos) (dTup t):=by
  intro pins s σ H Q I hq
  refine wpAny_Tuple_spliced (thn (h pos pins s σ H _ I hq) fun us s1 ⟨xs,H1,I1,r,q⟩=>?_)
  cases hl : lenOk xs with
  | false =>
    have q':(match lenOk xs with | true=>_ | false=>False:Prop):=q
    rw [hl] at q'
    exact q'.elim
  | true =>
    have z := lenOk_le hl
    have q':(match lenOk xs with | true=>∀ p H',Same H1 H'→H' p = some (.tup xs)→Q (.ref p) H' | false=>False:Prop):=q
    rw [hl] at q'
    refine ⟨by rw [← r.length]; exact z, ?_⟩
    have hf:H1 s1.heap.objs.size = none:=I1.hok.fresh (Nat.le_refl _)
    refine ⟨.ref s1.heap.objs.size,upd H1 s1.heap.objs.size (.tup xs),I1.laid (t':=s1.toks) (fun b u e=>Heap.get?_push_of_some _ e) (Nat.le_refl _) ?_,rfl,q' _ _ (same_upd hf) upd_same⟩
    exact ⟨z,us,r,⟨_,Heap.get?_push_size _ rfl,rfl,_,rfl⟩⟩
theorem e_lst {es:List Expr} {t:TA} (h:PA X es t):PE X (.List es pos) (dLst t):=by
  intro pins s σ H Q I hq
  refine wpAny_List_spliced (thn (h pos pins s σ H _ I hq) fun us s1 ⟨xs,H1,I1,r,q⟩=>?_)
  cases hl : lenOk xs with
  | false =>
    have q':(match lenOk xs with | true=>_ | false=>False:Prop):=q
    rw [hl] at q'
    exact q'.elim
  | true =>
    have z := lenOk_le hl
    have q':(match lenOk xs with | true=>∀ p H',Same H1 H'→H' p = some (.lst xs)→Q (.ref p) H' | false=>False:Prop):=q
    rw [hl] at q'
    refine ⟨by rw [← r.length]; exact z, ?_⟩
    have hf:H1 s1.heap.objs.size = none:=I1.hok.fresh (Nat.le_refl _)
    refine ⟨.ref s1.heap.objs.size,upd H1 s1.heap.objs.size (.lst xs),I1.laid (t':=s1.toks) (fun b u e=>Heap.get?_push_of_some _ e) (Nat.le_refl _) ?_,rfl,q' _ _ (same_upd hf) upd_same⟩
    exact ⟨z, us, 0, r, Heap.get?_push_size _ rfl⟩
def nthI (xs : List V) : Int → Option V
  | .ofNat n => xs[n]?
  | .negSucc _ => none
theorem nthI_at {xs:List V} {i:Int} {v:V} (h:nthI xs i = some v):atI xs i = some v:=by
  cases i with
  | ofNat n => exact atI_nat h
  | negSucc n => cases h
def dIxT : R2 := fun x y H Q => match x, y with
  | .ref p,.int i=>∃ xs,H p = some (.tup xs)∧match nthI xs i with
    | some v => Q v H
    | none => False
  | _, _ => False
def dIxL (K:PySem.W.Frag):R2:=fun x y H Q=>match x,y with
  | .ref p,.int i=>∃ xs v,SqL K H p xs∧atI xs i = some v∧Q v H
  | _, _ => False
theorem i_tup : IxR X dIxT := by
  intro value slice pins s σ H x y v u Q I rx ry h hs
  cases x <;> cases y <;> first
    | exact False.elim h
    | (obtain ⟨xs, e, q⟩ := h
       cases z : nthI xs _ with
       | none =>
         rw [z] at q
         exact q.elim
       | some w =>
         rw [z] at q
         exact ix_tup value slice pins s σ H _ _ v u Q I rx ry ⟨_,xs,_,w,rfl,rfl,SqT.of e,nthI_at z,q⟩ hs)
theorem i_lst : IxR X (dIxL X.K) := by
  intro value slice pins s σ H x y v u Q I rx ry h hs
  cases x <;> cases y <;> first
    | exact False.elim h
    | (obtain ⟨xs, w, e, z, q⟩ := h
       exact ix_list value slice pins s σ H _ _ v u Q I rx ry ⟨_,xs,_,w,rfl,rfl,e,z,q⟩ hs)
theorem e_ty (T:String) {x:Str} (hg:Gl X x) (hm:X.mg x = none) (hv:bootBuiltins x = some (.type T)) (hn:x ≠ "__name__":=by decide) (hd:(x == ("__debug__":Str)) = false:=by decide):PE X (.Name x pos) (tC (.ty T)) :=
  pe_bltn hg hm hv rfl hn hd
def dAbs:List V→Hp→VK→Prop:=fun xs H Q=>match xs with
  | [.int i] => Q (.int (i.natAbs : Int)) H
  | _ => False
theorem c_abs : CallR X (.builtin "abs") dAbs := by
  intro pins s σ H xs us Q I r h
  match xs, h with
  | [.int i], h =>
    have e:(if i < 0 then -i else i) = (i.natAbs:Int):=by split <;> omega
    exact call_abs pins s σ H _ us Q I r ⟨i,rfl,by rw [e]; exact h⟩
def dLen (K:PySem.W.Frag):List V→Hp→VK→Prop:=fun xs H Q=>match xs with
  | [.ref p]=>∃ ys,(SqL K H p ys ∨ SqT K H p ys)∧Q (.int ys.length) H
  | [.str z] => z.length ≤ sizeLine ∧ Q (.int z.length) H
  | _ => False
theorem c_len : CallR X (.builtin "len") (dLen X.K) := by
  intro pins s σ H xs us Q I r h
  match xs, h with
  | [.ref p],⟨ys,h1,q⟩=>exact call_len_seq pins s σ H _ us Q I r ⟨p,ys,rfl,h1,q⟩
  | [.str z],⟨h1,q⟩=>exact call_len_str pins s σ H _ us Q I r ⟨z,rfl,h1,q⟩
def tyB (t c : String) : Option Bool :=
  if t = c then some true else if t = "bool"∧c = "int" then some true
  else if (t = "int" ∨ t = "bool" ∨ t = "str" ∨ t = "tuple" ∨ t = "list" ∨ t = "dict" ∨ t = "NoneType")∧(c = "int" ∨ c = "bool" ∨ c = "str" ∨ c = "tuple" ∨ c = "list") then some false else none
def tyHO : HO → Option String
  | .lst _ => some "list"
  | .frz _ (.lst _) => some "list"
  | .tup _ => some "tuple"
  | .dK _ => some "dict"
  | .dT _ => some "dict"
  | _ => none
def dIsi:List V→Hp→VK→Prop:=fun xs H Q=>match xs with
  | [.non,.ty c]=>∃ b,tyB "NoneType" c = some b∧Q (.bl b) H
  | [.bl _,.ty c]=>∃ b,tyB "bool" c = some b∧Q (.bl b) H
  | [.int _,.ty c]=>∃ b,tyB "int" c = some b∧Q (.bl b) H
  | [.str _,.ty c]=>∃ b,tyB "str" c = some b∧Q (.bl b) H
  | [.ref p,.ty c]=>∃ u b t,H p = some u∧tyHO u = some t∧tyB t c = some b∧Q (.bl b) H
  | _ => False
theorem kit_tyB (K:PySem.W.Frag) {t c:String} {b:Bool} (h:tyB t c = some b):PySem.W.kitOne K (.type t) (.type c) = some b:=by
  unfold tyB at h
  split at h
  · rename_i e
    subst e
    cases h
    unfold PySem.W.kitOne
    rw [if_pos (by simp)]
  · split at h
    · rename_i e
      obtain ⟨rfl, rfl⟩ := e
      cases h
      kernel_rfl
    · split at h
      · rename_i e1 e2 e
        cases h
        obtain ⟨ht, hc⟩ := e
        rcases ht with rfl | rfl | rfl | rfl | rfl | rfl | rfl <;> rcases hc with rfl | rfl | rfl | rfl | rfl <;> first
          | exact absurd rfl e1
          | exact absurd ⟨rfl, rfl⟩ e2
          | kernel_rfl
      · cases h
theorem c_isi : CallR X (.builtin "isinstance") dIsi := by
  intro pins s σ H xs us Q I r h
  match xs, h with
  | [.non, .ty c], ⟨b, e, q⟩ =>
    obtain ⟨u, w', rfl, r1, r2⟩ := vals2 r
    cases (show w' = Value.type c from r2)
    exact isinst_ok I r1 .non (kit_tyB X.K e) fun tk=>⟨.bl b,H,I.tok _,rfl,q⟩
  | [.bl y, .ty c], ⟨b, e, q⟩ =>
    obtain ⟨u, w', rfl, r1, r2⟩ := vals2 r
    cases (show w' = Value.type c from r2)
    exact isinst_ok I r1 (.bl y) (kit_tyB X.K e) fun tk=>⟨.bl b,H,I.tok _,rfl,q⟩
  | [.int y, .ty c], ⟨b, e, q⟩ =>
    obtain ⟨u, w', rfl, r1, r2⟩ := vals2 r
    cases (show w' = Value.type c from r2)
    exact isinst_ok I r1 (.int y) (kit_tyB X.K e) fun tk=>⟨.bl b,H,I.tok _,rfl,q⟩
  | [.str y, .ty c], ⟨b, e, q⟩ =>
    obtain ⟨u, w', rfl, r1, r2⟩ := vals2 r
    cases (show w' = Value.type c from r2)
    exact isinst_ok I r1 (.str y) (kit_tyB X.K e) fun tk=>⟨.bl b,H,I.tok _,rfl,q⟩
  | [.ref p, .ty c], ⟨o, b, t, e1, e2, e, q⟩ =>
    obtain ⟨u, w', rfl, r1, r2⟩ := vals2 r
    cases (show w' = Value.type c from r2)
    have ty : TyOf X.K H (.ref p) (.type t) := by
      cases o with
      | lst ys => cases e2; exact .lst e1
      | tup ys => cases e2; exact .tup e1
      | dK ys => cases e2; exact .dK e1
      | dT ys => cases e2; exact .dT e1
      | frz ob u =>
        cases u with
        | lst ys => cases e2; exact .frz e1
        | _ => cases e2
      | _ => cases e2
    exact isinst_ok I r1 ty (kit_tyB X.K e) fun tk=>⟨.bl b,H,I.tok _,rfl,q⟩
end
section
variable {X : Cx} {pos : Pos}
def dWhile (c:TT) (tb:TS):TS:=fun D σ H=>∃ W:Nat→L2.St→Hp→Prop,(∃ m,W m σ H)∧∀ m σ H,W m σ H →
  c σ H fun b H1=>Br b (tb { D with nx:=fun σ' H'=>∃ m',m' < m∧W m' σ' H',ct:=fun σ' H'=>∃ m',m' < m∧W m' σ' H',bk:=D.nx } σ H1) (D.nx σ H1)
theorem s_while {c:Expr} {body:List Stmt} {tc:TT} {tb:TS} (hp:PassesOwn (model X.prog X.w) X.A X.env X.xe) (hc:PT X c tc) (hb:PSs X body tb):PS X (.While c body [] pos) (dWhile tc tb):=by
  intro pins s σ H D I h
  obtain ⟨W, ⟨m0, w0⟩, turn⟩ := h
  refine wpAny_While (codeAny_whileLoop (fun n s'=>∃ σ' H',Inv X pins σ' H' s'∧W n σ' H') ?_ m0 ⟨σ,H,I,w0⟩)
  rintro n s1 ⟨σ1, H1, I1, w1⟩
  refine wpAny_passesOwn hp (thn (hc pins s1 σ1 H1 _ I1 (turn n σ1 H1 w1)) fun b s2 ⟨H2,I2,q2⟩=>?_)
  cases b with
  | true =>
    have q2 := q2.1 rfl
    rw [if_pos rfl]
    refine wpAny_passesOwn hp (thn (hb pins s2 σ1 H2 _ I2 q2) fun f s3 q3=>?_)
    cases f with
    | next =>
      obtain ⟨σ3, H3, I3, m', hm, w3⟩ := q3
      exact ⟨m', hm, σ3, H3, I3, w3⟩
    | cont =>
      obtain ⟨σ3, H3, I3, m', hm, w3⟩ := q3
      exact ⟨m', hm, σ3, H3, I3, w3⟩
    | brk => exact q3
    | ret v => exact q3
  | false =>
    rw [if_neg Bool.false_ne_true]
    exact wpAny_execs_nil ⟨σ1, H2, I2, q2.2 rfl⟩
end
structure Dfn (K:PySem.W.Frag) (mg:Str→Option Value) (x:Str) (st:Stmt) (ps:List Str):Prop where
  ex:∃ (f:Addr) (fd:FuncData),Fun K x x st f fd∧mg x = some (.ref f)∧Binds K fd ps []
section
variable {P:Program} {w:World} {K:PySem.W.Frag} {mg:Str→Option Value} {base:Heap}
theorem Dfn.calX {x:Str} {st:Stmt} {N ps:List Str} {k:Nat} {sp:Sp} (d:Dfn K mg x st ps) (S:FnScope N ps (defScope st)) (len:∀ vs H Q E,sp vs H Q E→vs.length = ps.length)
    (hbody:∀ (f:Addr) (cdv:Value) (A:Around) (outer:List Env) (s:Shared) (H:Hp) (vs:List V) (Q:VK) (E:XK),Room k (A.deeper (envOfC x (defScope st) s.heap.objs.size f cdv))→sp vs H Q E →
      ∃ t,PSs (cxOf (CXE P w) P w K mg base N x (defScope st) f cdv A outer s H E) (defBody st) t∧t { nx:=fun _ H'=>Q .non H',rt:=Q } (start N vs) H):Cal P w K mg base x ps (k + 1) sp:=by
  obtain ⟨f, fd, F, hm, hb⟩ := d.ex
  obtain ⟨oc,od,kV,doc,pm,an,cdv,ct,osl,rfl,lk,hcd⟩:=F.ex
  exact ⟨f,_,hm,F.kp,hb,fn_of lk hcd S len fun A outer s H vs Q E hr hsp=>hbody f cdv A outer s H vs Q E hr hsp,oc,od,osl,lk⟩
theorem Dfn.cal {x:Str} {st:Stmt} {N ps:List Str} {k:Nat} {sp:Sp} (d:Dfn K mg x st ps) (S:FnScope N ps (defScope st)) (len:∀ vs H Q E,sp vs H Q E→vs.length = ps.length)
    (hbody:∀ (f:Addr) (cdv:Value) (A:Around) (outer:List Env) (s:Shared) (H:Hp) (vs:List V) (Q:VK) (E:XK),Room k (A.deeper (envOfC x (defScope st) s.heap.objs.size f cdv))→sp vs H Q E →
      ∃ t,PSs (cxOf (CXE P w) P w K mg base N x (defScope st) f cdv A outer s H E).nox (defBody st) t∧t { nx:=fun _ H'=>Q .non H',rt:=Q } (start N vs) H):Cal P w K mg base x ps (k + 1) sp :=
  d.calX S len fun f cdv A outer s H vs Q E hr hsp => by
    obtain ⟨t,h,q⟩:=hbody f cdv A outer s H vs Q E hr hsp
    exact ⟨t, h.nox, q⟩
end
theorem sm_sqT {K:PySem.W.Frag} {H H':Hp} {a:Addr} {xs:List V} (e:Same H H') (h:SqT K H a xs):SqT K H' a xs:=by
  rcases h with (h | ⟨o, h⟩) | h
  · exact .inl (.inl (e _ _ h))
  · exact .inl (.inr ⟨o, e _ _ h⟩)
  · exact .inr h
mutual
inductive Rp (K:PySem.W.Frag) (H:Hp):V→PyData→Prop where
  | non : Rp K H .non .none
  | bl (b : Bool) : Rp K H (.bl b) (.bool b)
  | int (i : Int) : Rp K H (.int i) (.int i)
  | str (x : Str) : Rp K H (.str x) (.str x)
  | tup {p:Addr} {xs:List V} {ds:List PyData}:SqT K H p xs→RpL K H xs ds→Rp K H (.ref p) (.tuple ds)
  | lst {p:Addr} {xs:List V} {ds:List PyData}:SqL K H p xs→RpL K H xs ds→Rp K H (.ref p) (.list ds)
inductive RpL (K:PySem.W.Frag) (H:Hp):List V→List PyData→Prop where
  | nil : RpL K H [] []
  | cons {v:V} {d:PyData} {vs:List V} {ds:List PyData}:Rp K H v d→RpL K H vs ds→RpL K H (v :: vs) (d :: ds)
end
mutual
theorem Rp.up {K:PySem.W.Frag} {H H':Hp} (s:Same H H'):∀ {v:V} {d:PyData},Rp K H v d→Rp K H' v d
  | _, _, .non => .non
  | _, _, .bl b => .bl b
  | _, _, .int i => .int i
  | _, _, .str x => .str x
  | _, _, .tup h r => .tup (sm_sqT s h) (RpL.up s r)
  | _, _, .lst h r => .lst (s.seq h) (RpL.up s r)
theorem RpL.up {K:PySem.W.Frag} {H H':Hp} (s:Same H H'):∀ {v:List V} {d:List PyData},RpL K H v d→RpL K H' v d
  | _, _, .nil => .nil
  | _, _, .cons h r => .cons (Rp.up s h) (RpL.up s r)
end
section
variable {X : Cx}
mutual
theorem Rp.reads {pins:List (Addr × Obj)} {σ:L2.St} {H:Hp} {s:Shared} (I:Inv X pins σ H s):∀ {v:V} {d:PyData} {u:Value},Rp X.K H v d→L2.RelV v u→∃ as,Reads s.heap u d as
  | _, _, _, .non, r => by cases r; exact ⟨_, Reads.none⟩
  | _, _, _, .bl b, r => by cases r; exact ⟨_, Reads.bool b⟩
  | _,_,_,.int i,r=>by obtain ⟨t,rfl⟩:=r; exact ⟨_,Reads.int i t⟩
  | _,_,_,.str i,r=>by obtain ⟨t,rfl⟩:=r; exact ⟨_,Reads.str i t⟩
  | _, _, _, .tup h q, r => by
    cases r
    obtain ⟨its, rv, ⟨o, e, c, n, dd⟩, _⟩ := I.tuple h
    obtain ⟨as, ra⟩ := RpL.reads I q rv
    exact ⟨as, reads_tuple_at e c dd (by simpa using ra)⟩
  | _, _, _, .lst h q, r => by
    cases r
    obtain ⟨its, rv, ⟨o, n, e, c, _, dd⟩, _⟩ := I.list h
    obtain ⟨as, ra⟩ := RpL.reads I q rv
    exact ⟨_, reads_list_at e c dd (by simpa using ra)⟩
theorem RpL.reads {pins:List (Addr × Obj)} {σ:L2.St} {H:Hp} {s:Shared} (I:Inv X pins σ H s):∀ {v:List V} {d:List PyData} {u:List Value},RpL X.K H v d→Vals v u→∃ as,ReadsAll s.heap u d as
  | _, _, _, .nil, r => by cases r; exact ⟨_, ReadsAll.nil⟩
  | _, _, _, .cons h q, r => by
    cases r with
    | cons r1 r2 =>
      obtain ⟨as, ra⟩ := Rp.reads I h r1
      obtain ⟨bs, rb⟩ := RpL.reads I q r2
      exact ⟨_, ReadsAll.cons ra rb⟩
end
def dEqD (K:PySem.W.Frag):R2:=fun x y H Q=>∃ d e,Rp K H x d∧Rp K H y e∧SeqAt.shaped d = true∧SeqAt.shaped e = true∧Q (.bl (PyData.eqv d e)) H
def dNeD (K:PySem.W.Frag):R2:=fun x y H Q=>∃ d e,Rp K H x d∧Rp K H y e∧SeqAt.shaped d = true∧SeqAt.shaped e = true∧Q (.bl (!PyData.eqv d e)) H
theorem o_eqD (hu:X.A.units + 64 < cLine):OpR X (compareOp .Eq) (dEqD X.K):=by
  intro pins s σ H x y v u Q I rx ry q
  obtain ⟨d, e, h1, h2, h3, h4, q⟩ := q
  obtain ⟨as, r1⟩ := h1.reads I rx
  obtain ⟨bs, r2⟩ := h2.reads I ry
  exact PyProof.Rows.eq_dataH r1 r2 h3 h4 hu ⟨.bl _,H,I,rfl,q⟩
theorem o_neD (hu:X.A.units + 64 < cLine):OpR X (compareOp .NotEq) (dNeD X.K):=by
  intro pins s σ H x y v u Q I rx ry q
  obtain ⟨d, e, h1, h2, h3, h4, q⟩ := q
  obtain ⟨as, r1⟩ := h1.reads I rx
  obtain ⟨bs, r2⟩ := h2.reads I ry
  exact PyProof.Rows.ne_dataH r1 r2 h3 h4 hu ⟨.bl _,H,I,rfl,q⟩
end
end Lw
end
section
set_option Elab.async false
set_option linter.all false
set_option maxRecDepth 100000
set_option maxHeartbeats 4000000
set_option exponentiation.threshold 5000
namespace Lw
open PySem PySem.Spec PyProof.Rows L2
def cell (ns:List Int) (k:Int):Int:=if ns.length = 0 then 0 else ns.getD (k % (ns.length:Int)).toNat 0
theorem bd_lit {n:Nat} {x:Int} (h:Nat.blt x.natAbs (2 ^ n) = true):Bd n x:=by
  unfold Bd
  exact Nat.lt_of_lt_of_le (Nat.lt_of_succ_le (Nat.le_of_ble_eq_true h)) (Nat.le_refl _)
theorem Bd.mono {m n:Nat} {x:Int} (h:Bd m x) (l:m ≤ n):Bd n x:=Nat.lt_of_lt_of_le h (Nat.pow_le_pow_right (by decide) l)
theorem Bd.mul {m n:Nat} {x y:Int} (h:Bd m x) (l:Bd n y):Bd (m + n) (x * y):=by
  unfold Bd at *
  rw [Int.natAbs_mul, Nat.pow_add]
  by_cases z : y.natAbs = 0
  · rw [z, Nat.mul_zero]
    exact Nat.mul_pos (Nat.pow_pos (by decide)) (Nat.pow_pos (by decide))
  · exact Nat.lt_of_lt_of_le (Nat.mul_lt_mul_of_pos_right h (Nat.pos_of_ne_zero z)) (Nat.mul_le_mul_left _ (Nat.le_of_lt l))
theorem Bd.add {n:Nat} {x y:Int} (h:Bd n x) (l:Bd n y):Bd (n + 1) (x + y):=by
  unfold Bd at *
  have := Int.natAbs_add_le x y
  rw [Nat.pow_succ]
  omega
theorem Bd.sub {n:Nat} {x y:Int} (h:Bd n x) (l:Bd n y):Bd (n + 1) (x - y):=by
  unfold Bd at *
  have : (x - y).natAbs ≤ x.natAbs + y.natAbs := by omega
  rw [Nat.pow_succ]
  omega
theorem Bd.neg {n:Nat} {x:Int} (h:Bd n x):Bd n (-x):=by
  unfold Bd at *
  omega
theorem Bd.of_le {n:Nat} {x y:Int} (h:Bd n y) (l:x.natAbs ≤ y.natAbs):Bd n x:=Nat.lt_of_le_of_lt l h
theorem bd_of {x b:Int} {n:Nat} (h1:-b ≤ x) (h2:x ≤ b) (h:Bd n b):Bd n x:=h.of_le (by omega)
def lowT (t b : Int) : Int := t / (Int.gcd t b : Int)
def lowB (t b : Int) : Int := b / (Int.gcd t b : Int)
theorem gcd_pos' (t:Int) {b:Int} (hb:0 < b):0 < (Int.gcd t b:Int):=by
  have:0 < Int.gcd t b:=Int.gcd_pos_of_ne_zero_right _ (by omega)
  omega
theorem lowT_mul (t b:Int):lowT t b * (Int.gcd t b:Int) = t:=Int.ediv_mul_cancel (Int.gcd_dvd_left ..)
theorem lowB_mul (t b:Int):lowB t b * (Int.gcd t b:Int) = b:=Int.ediv_mul_cancel (Int.gcd_dvd_right ..)
theorem lowB_pos (t:Int) {b:Int} (hb:0 < b):0 < lowB t b:=by
  have h := lowB_mul t b
  have g := gcd_pos' t hb
  refine Int.lt_of_not_ge fun c => ?_
  have:=Int.mul_nonpos_of_nonpos_of_nonneg c (Int.le_of_lt g)
  omega
theorem low_gcd (t:Int) {b:Int} (hb:0 < b):Int.gcd (lowT t b) (lowB t b) = 1:=Int.gcd_ediv_gcd_ediv_gcd_of_ne_zero_right (by omega)
theorem natAbs_ediv_le' (x:Int) (g:Nat):(x / (g:Int)).natAbs ≤ x.natAbs:=Int.natAbs_ediv_le_natAbs x g
theorem bd_lowT {n:Nat} {t b:Int} (h:Bd n t):Bd n (lowT t b):=h.of_le (natAbs_ediv_le' ..)
theorem bd_lowB {n:Nat} {t b:Int} (h:Bd n b):Bd n (lowB t b):=h.of_le (natAbs_ediv_le' ..)
structure Fq (n:Nat) (H:Hp) (p:Addr) (a b:Int):Prop where
  at' : H p = some (.tup [.int a, .int b])
  pos : 0 < b
  ba : Bd n a
  bb : Bd n b
theorem Fq.up {n:Nat} {H H':Hp} {p:Addr} {a b:Int} (s:Same H H') (h:Fq n H p a b):Fq n H' p a b:=⟨s _ _ h.at',h.pos,h.ba,h.bb⟩
theorem Fq.mono {m n:Nat} {H:Hp} {p:Addr} {a b:Int} (h:Fq m H p a b) (l:m ≤ n):Fq n H p a b:=⟨h.at',h.pos,h.ba.mono l,h.bb.mono l⟩
theorem gcd_step {a b:Int} (a0:0 ≤ a) (b0:0 ≤ b):Int.gcd b (a % b) = Int.gcd a b:=by
  obtain ⟨m, rfl⟩ := Int.eq_ofNat_of_zero_le a0
  obtain ⟨n, rfl⟩ := Int.eq_ofNat_of_zero_le b0
  show Nat.gcd n (((m:Int) % (n:Int)).natAbs) = Nat.gcd m n
  rw [show ((m:Int) % (n:Int)).natAbs = m % n from rfl,Nat.gcd_comm m n,Nat.gcd_rec n m,Nat.gcd_comm]
theorem gcd_abs (t b:Int):Int.gcd ((t.natAbs:Nat):Int) b = Int.gcd t b:=rfl
theorem bd_gcd {n:Nat} (t:Int) {b:Int} (b0:0 < b) (h:Bd n b):Bd n (Int.gcd t b:Int):=by
  refine h.of_le ?_
  have:=Nat.le_of_dvd (by omega:0 < b.natAbs) (show Int.gcd t b ∣ b.natAbs from Nat.gcd_dvd_right ..)
  exact this
abbrev Q2 := Int × Int
def ltQ (x y : Q2) : Bool := decide (x.1 * y.2 < y.1 * x.2)
theorem cok {m n:Nat} {i j:Int} (h:Bd m i) (h':Bd n j) (l:m ≤ 4000) (l':n ≤ 4000):COk i j:=.inl ⟨h.mono l,h'.mono l'⟩
structure Pq (n:Nat) (H:Hp) (r:Addr) (lo:Q2) (hi:Option Q2):Prop where
  ex:∃ l x,H r = some (.tup [.ref l,x])∧Fq n H l lo.1 lo.2∧(hi = none∧x = .non ∨ ∃ q y,hi = some y∧x = .ref q∧Fq n H q y.1 y.2)
theorem gcd_fmod (a b:Int):Int.gcd b (a.fmod b) = Int.gcd a b:=by
  rw [Int.fmod_def,Int.gcd_sub_mul_left_right,Int.gcd_comm]
theorem fmod_lt (a:Int) {b:Int} (h:b ≠ 0):(a.fmod b).natAbs < b.natAbs:=by
  have e0 := Int.emod_nonneg a h
  have e1 := Int.emod_lt a h
  rw [Int.fmod_eq_emod]
  by_cases c : 0 ≤ b ∨ b ∣ a
  · rw [if_pos c]
    omega
  · rw [if_neg c]
    have e2:a % b ≠ 0:=fun z=>c (.inr (Int.dvd_of_emod_eq_zero z))
    have : ¬ 0 ≤ b := fun z => c (.inl z)
    omega
def frT (t b:Int):Int:=if b < 0 then -lowT t b else lowT t b
def frB (t b:Int):Int:=if b < 0 then -lowB t b else lowB t b
def dvs (t b:Int):Int:=if b < 0 then -(Int.gcd t b:Int) else (Int.gcd t b:Int)
theorem gcd_ne (t:Int) {b:Int} (hb:b ≠ 0):0 < (Int.gcd t b:Int):=by
  have:0 < Int.gcd t b:=Int.gcd_pos_of_ne_zero_right _ hb
  omega
theorem dvs_ne (t:Int) {b:Int} (hb:b ≠ 0):dvs t b ≠ 0:=by
  have := gcd_ne t hb
  unfold dvs
  split <;> omega
theorem bd_dvs {n:Nat} (t:Int) {b:Int} (hb:b ≠ 0) (h:Bd n b):Bd n (dvs t b):=by
  have l:=Nat.le_of_dvd (by omega:0 < b.natAbs) (show Int.gcd t b ∣ b.natAbs from Nat.gcd_dvd_right ..)
  refine h.of_le ?_
  unfold dvs
  split <;> omega
theorem fdiv_T (t:Int) {b:Int} (hb:b ≠ 0):t.fdiv (dvs t b) = frT t b:=by
  have g := gcd_ne t hb
  have h := lowT_mul t b
  unfold dvs frT
  split
  · have e:t = (-lowT t b) * (-(Int.gcd t b:Int)):=by rw [Int.neg_mul_neg]; exact h.symm
    exact (congrArg (fun z=>z.fdiv (-(Int.gcd t b:Int))) e).trans (Int.mul_fdiv_cancel _ (by omega))
  · exact (congrArg (fun z=>z.fdiv (Int.gcd t b:Int)) h.symm).trans (Int.mul_fdiv_cancel _ (by omega))
theorem fdiv_B (t:Int) {b:Int} (hb:b ≠ 0):b.fdiv (dvs t b) = frB t b:=by
  have g := gcd_ne t hb
  have h := lowB_mul t b
  unfold dvs frB
  split
  · have e:b = (-lowB t b) * (-(Int.gcd t b:Int)):=by rw [Int.neg_mul_neg]; exact h.symm
    exact (congrArg (fun z=>z.fdiv (-(Int.gcd t b:Int))) e).trans (Int.mul_fdiv_cancel _ (by omega))
  · exact (congrArg (fun z=>z.fdiv (Int.gcd t b:Int)) h.symm).trans (Int.mul_fdiv_cancel _ (by omega))
theorem frB_pos (t:Int) {b:Int} (hb:b ≠ 0):0 < frB t b:=by
  have g := gcd_ne t hb
  have h := lowB_mul t b
  unfold frB
  split
  · refine Int.lt_of_not_ge fun c => ?_
    have:=Int.mul_nonneg (show 0 ≤ lowB t b by omega) (Int.le_of_lt g)
    omega
  · refine Int.lt_of_not_ge fun c => ?_
    have:=Int.mul_nonpos_of_nonpos_of_nonneg c (Int.le_of_lt g)
    omega
theorem bd_frT {n:Nat} {t b:Int} (h:Bd n t):Bd n (frT t b):=by
  have := bd_lowT (b := b) h
  unfold frT
  split
  · exact this.neg
  · exact this
theorem bd_frB {n:Nat} {t b:Int} (h:Bd n b):Bd n (frB t b):=by
  have := bd_lowB (t := t) h
  unfold frB
  split
  · exact this.neg
  · exact this
structure FrAt (H : Hp) (p : Addr) (t b : Int) : Prop where
  at' : H p = some (.tup [.int (frT t b), .int (frB t b)])
theorem FrAt.fq {n:Nat} {H:Hp} {p:Addr} {t b:Int} (h:FrAt H p t b) (hb:b ≠ 0) (h1:Bd n t) (h2:Bd n b):Fq n H p (frT t b) (frB t b):=⟨h.at',frB_pos t hb,bd_frT h1,bd_frB h2⟩
end Lw
end
section
set_option Elab.async false
set_option linter.all false
set_option maxRecDepth 100000
set_option maxHeartbeats 4000000
namespace Lw
open PySem PySem.Spec PyProof.Rows L2
def ItK (kd:Bool) (h:Heap) (it l:Addr) (k:Nat):Prop:=match kd with
  | true => h.IsListIter it l k
  | false => h.IsTupleIter it l k
def SeK (kd:Bool) (h:Heap) (l:Addr) (xs:Array Value):Prop:=match kd with
  | true => h.IsList l xs
  | false => h.IsTuple l xs
def SqK (kd:Bool) (K:PySem.W.Frag) (H:Hp) (a:Addr) (xs:List V):Prop:=match kd with
  | true => SqL K H a xs
  | false => SqT K H a xs
theorem ItK.ob {kd:Bool} {h:Heap} {it l:Addr} {k:Nat} (x:ItK kd h it l k):∃ o,h.get? it = some o∧∀ v,o.data ≠ .cell v:=by
  cases kd with
  | true=>obtain ⟨o,e,_,d⟩:=x; exact ⟨o,e,fun v z=>by rw [d] at z; cases z⟩
  | false=>obtain ⟨o,e,_,d⟩:=x; exact ⟨o,e,fun v z=>by rw [d] at z; cases z⟩
theorem ItK.mv {kd:Bool} {h h':Heap} {it l:Addr} {k:Nat} (x:ItK kd h it l k) (q:∀ o,h.get? it = some o→h'.get? it = some o):ItK kd h' it l k:=by
  cases kd with
  | true => obtain ⟨o, e, r⟩ := x; exact ⟨o, q o e, r⟩
  | false => obtain ⟨o, e, r⟩ := x; exact ⟨o, q o e, r⟩
theorem SeK.mv {kd:Bool} {h h':Heap} {l:Addr} {xs:Array Value} (x:SeK kd h l xs) (q:∀ o,h.get? l = some o→h'.get? l = some o):SeK kd h' l xs:=by
  cases kd with
  | true => obtain ⟨o, e, r⟩ := x; exact ⟨o, q o e, r⟩
  | false => obtain ⟨o, e, r⟩ := x; exact ⟨o, q o e, r⟩
theorem SeK.lt {kd:Bool} {h:Heap} {l:Addr} {xs:Array Value} (x:SeK kd h l xs):l < h.objs.size:=by
  cases kd with
  | true => obtain ⟨o, e, r⟩ := x; exact Heap.lt_size e
  | false => obtain ⟨o, e, r⟩ := x; exact Heap.lt_size e
section
variable {prog:Program} {w:World} {A:Around} {E:Value→Shared→Prop} {s:Shared}
theorem nextK_item {kd:Bool} {it l:Addr} {k:Nat} {xs:Array Value} {x:Value} {Q:Value→Shared→Prop} (h1:ItK kd s.heap it l k) (h2:SeK kd s.heap l xs) (hx:xs[k]? = some x)
    (q:∀ g,ItK kd g it l (k + 1)→Heap.SameBut it s.heap g→Q x { s with heap:=g }):wpAny (model prog w) A (Builtin.SmallTypes.nextOf (.ref it)) Q E s:=by
  cases kd with
  | true => exact wpAny_nextOf_list_item h1 h2 hx q
  | false =>
    have h1' : s.heap.IsTupleIter it l k := h1
    obtain ⟨io, e1, c1, d1⟩ := id h1'
    obtain ⟨lo,e2,_,m2,d2⟩:=(show s.heap.IsTuple l xs from h2)
    have ty := h1'.typeIs
    unfold Builtin.SmallTypes.nextOf; refine wpAny_bind (wpAny_callSpecial?_slot (name:=Str.ofString "__next__") ty F.slot_tuple_iterator_next (wpAny_call_entry F.slot_tuple_iterator_next ty F.entry_tuple_iterator_next ?_ (F.args_tuple_iterator_next_1 _)))
    show wpAny _ _ (field (Value.ref it) 0 >>= _) _ _ _
    refine wpAny_bind (wpAny_field e1 d1 (x:=.ref l) rfl ?_)
    show wpAny _ _ (if (Value.ref l == Value.none) = true then _ else _) _ _ _
    rw [if_neg (show ¬ (Value.ref l == Value.none) = true from Bool.false_ne_true)]
    show wpAny _ _ (field (Value.ref it) 1 >>= _) _ _ _
    refine wpAny_bind (wpAny_field e1 d1 (x:=.int k 0) rfl ?_)
    show wpAny _ _ (seqItems? (Value.ref l) >>= _) _ _ _
    refine wpAny_bind (wpAny_seqItems e2 d2 ?_)
    simp only [Int.toNat_natCast, hx]
    refine wpAny_bind (wpAny_setField e1 d1 (by simp) (wpAny_pure ⟨x,rfl,wpAny_pure (q _ ?_ (Heap.SameBut.update ..))⟩))
    refine ⟨_,Heap.get?_update_self _ e1 (Obj.isFreed_of_fields (Obj.data_mapFields d1 _)),(Obj.cls_mapFields ..).trans c1,?_⟩
    rw [Obj.data_mapFields d1]
    simp [rawInt]
theorem nextK_end {kd:Bool} {it l:Addr} {k:Nat} {xs:Array Value} {Q:Value→Shared→Prop} (hh:A.handled = none) (h1:ItK kd s.heap it l k) (h2:SeK kd s.heap l xs) (hx:xs[k]? = none)
    (q:∀ g e,Heap.ExtBut it s.heap g→(∃ o,g.get? e = some o∧o.cls = .type "StopIteration")→E (.ref e) { s with heap:=g }):wpAny (model prog w) A (Builtin.SmallTypes.nextOf (.ref it)) Q E s:=by
  cases kd with
  | true => exact wpAny_nextOf_list_end hh h1 h2 hx q
  | false =>
    have h1' : s.heap.IsTupleIter it l k := h1
    obtain ⟨io, e1, c1, d1⟩ := id h1'
    obtain ⟨lo,e2,_,m2,d2⟩:=(show s.heap.IsTuple l xs from h2)
    have ty := h1'.typeIs
    unfold Builtin.SmallTypes.nextOf; refine wpAny_bind (wpAny_callSpecial?_slot (name:=Str.ofString "__next__") ty F.slot_tuple_iterator_next (wpAny_call_entry F.slot_tuple_iterator_next ty F.entry_tuple_iterator_next ?_ (F.args_tuple_iterator_next_1 _)))
    show wpAny _ _ (field (Value.ref it) 0 >>= _) _ _ _
    refine wpAny_bind (wpAny_field e1 d1 (x:=.ref l) rfl ?_)
    show wpAny _ _ (if (Value.ref l == Value.none) = true then _ else _) _ _ _
    rw [if_neg (show ¬ (Value.ref l == Value.none) = true from Bool.false_ne_true)]
    show wpAny _ _ (field (Value.ref it) 1 >>= _) _ _ _
    refine wpAny_bind (wpAny_field e1 d1 (x:=.int k 0) rfl ?_)
    show wpAny _ _ (seqItems? (Value.ref l) >>= _) _ _ _
    refine wpAny_bind (wpAny_seqItems e2 d2 ?_)
    simp only [Int.toNat_natCast, hx]
    refine wpAny_bind (wpAny_rule (wpAny_bind (wpAny_setField e1 d1 (by simp) ?_))); show wpAny _ _ (newExc (.type "StopIteration") [] >>= _) _ _ _; refine wpAny_bind ?_; simp only [newExc,newTuple]
    refine wpAny_bind (wpAny_newObj_type ?_ (by size_fits)); refine wpAny_bind (m:=firstArgMember _ _) (wpAny_of_eq (a:=Value.none) (by first | rfl | (simp only [firstArgMember]; rfl)) ?_)
    refine wpAny_newObj_type ?_ (by size_fits); simp only [raiseNew]; refine wpAny_bind (wpAny_handled ?_); first | rw [show A.in1.handled = none from hh] | rw [hh]
    refine wpAny_bind (wpAny_pure (wpAny_throw ?_))
    exact q _ _ (((Heap.SameBut.update ..).extBut.push _).push _) ⟨_,Heap.get?_push_size _ rfl,rfl⟩
structure ZAt (k1 k2:Bool) (z TI TO i1 i2 l1 l2:Addr) (n:Nat) (h:Heap):Prop where
  z : IsZip h z TI TO .none
  ti : IsPair h TI (.ref i1) (.ref i2)
  to : ∃ a b, IsPair h TO a b
  a : ItK k1 h i1 l1 n
  b : ItK k2 h i2 l2 n
theorem zipK_item {k1 k2:Bool} {z TI TO i1 i2 l1 l2:Addr} {n:Nat} {xs ys:Array Value} {x y:Value} {Q:Option Value→Shared→Prop} (D:ZipApart z TI TO i1 i2 l1 l2) (Z:ZAt k1 k2 z TI TO i1 i2 l1 l2 n s.heap)
    (hl1:SeK k1 s.heap l1 xs) (hl2:SeK k2 s.heap l2 ys) (hx:xs[n]? = some x) (hy:ys[n]? = some y)
    (q:∀ g,IsZip g z TI TO (rawInt s.heap.objs.size)→IsPair g TO x y→ItK k1 g i1 l1 (n + 1)→ItK k2 g i2 l2 (n + 1)→IsPair g s.heap.objs.size x y →
      (∀ c o,c ≠ z→c ≠ TO→c ≠ i1→c ≠ i2→s.heap.get? c = some o→g.get? c = some o)→Q (some (.ref s.heap.objs.size)) { s with heap:=g }) :
    wpAny (model prog w) A (pyNext (.ref z)) Q E s := by
  obtain ⟨Zz, Zi, ⟨a, b, Zo⟩, Za, Zb⟩ := Z
  have hT : s.TypeIs (.ref z) "zip" := ⟨_, Zz, rfl⟩
  unfold pyNext; refine wpAny_bind (wpAny_attempt (wpAny_callSpecial?_slot (name:=Str.ofString "__next__") hT F.slot_zip_next (wpAny_call_entry F.slot_zip_next hT F.entry_zip_next ?_ (F.args_zip_next_1 _))))
  show wpAny _ _ (field (Value.ref z) 2 >>= _) _ _ _
  refine wpAny_bind (wpAny_field Zz rfl (x:=.bool false) rfl ?_)
  show wpAny _ _ (field (Value.ref z) 3 >>= _) _ _ _
  refine wpAny_bind (wpAny_field Zz rfl (x:=.ref TI) rfl ?_)
  refine wpAny_bind (wpAny_seqItems Zi rfl ?_)
  show wpAny _ _ (Builtin.SmallTypes.ownedTupleIsFree (Value.ref z) >>= _) _ _ _
  refine wpAny_bind ?_; unfold Builtin.SmallTypes.ownedTupleIsFree
  refine wpAny_bind (wpAny_field Zz rfl (x:=.none) rfl (wpAny_pure ?_)); simp only [if_true]; refine wpAny_bind (wpAny_rule ?_)
  refine wpAny_bind (wpAny_field Zz rfl (x:=.ref TO) rfl ?_)
  refine wpAny_bind (wpAny_setField_rec Zz (by simp) fun g1 z1 s1=>?_)
  have z1 : IsZip g1 z TI TO .ellipsis := z1
  refine wpAny_bind ?_; simp only [List.zipIdx_cons,List.zipIdx_nil,List.forIn_cons,List.forIn_nil]
  refine wpAny_bind (wpAny_bind (wpAny_onRaise ?_)); show wpAny _ _ (Builtin.SmallTypes.nextOf (Value.ref i1) >>= _) _ _ _
  refine wpAny_bind (nextK_item (Za.mv fun o e=>s1.extBut _ _ D.i1z e) (hl1.mv fun o e=>s1.extBut _ _ D.l1z e) hx fun g2 a2 s2=>wpAny_pure ?_)
  have o2:IsPair g2 TO a b:=s2.extBut _ _ D.TOi1 (s1.extBut _ _ D.TOz Zo)
  refine wpAny_bind (wpAny_seqItems o2 rfl ?_)
  refine wpAny_bind (wpAny_updateSeq_pair o2 fun g3 o3 s3=>?_)
  have o3 : IsPair g3 TO x b := o3
  refine wpAny_bind (wpAny_letGo (wpAny_pure ?_))
  refine wpAny_bind (wpAny_bind (wpAny_onRaise ?_)); show wpAny _ _ (Builtin.SmallTypes.nextOf (Value.ref i2) >>= _) _ _ _
  refine wpAny_bind (nextK_item (Zb.mv fun o e=>s3.extBut _ _ D.TOi2.symm (s2.extBut _ _ D.i12.symm (s1.extBut _ _ D.i2z e))) (hl2.mv fun o e=>s3.extBut _ _ D.l2TO (s2.extBut _ _ D.l2i1 (s1.extBut _ _ D.l2z e))) hy fun g4 a4 s4=>wpAny_pure ?_)
  have o4 : IsPair g4 TO x b := s4.extBut _ _ D.TOi2 o3
  refine wpAny_bind (wpAny_seqItems o4 rfl ?_)
  refine wpAny_bind (wpAny_updateSeq_pair o4 fun g5 o5 s5=>?_)
  have o5 : IsPair g5 TO x y := o5
  refine wpAny_bind (wpAny_letGo (wpAny_pure (wpAny_pure ?_)))
  refine wpAny_bind (wpAny_seqItems o5 rfl ?_)
  refine wpAny_bind (wpAny_newTuple ?_)
  have sz:g5.objs.size = s.heap.objs.size:=by rw [s5.1,s4.1,s3.1,s2.1,s1.1]
  have z5:IsZip g5 z TI TO .ellipsis:=s5.extBut _ _ D.TOz.symm (s4.extBut _ _ D.i2z.symm (s3.extBut _ _ D.TOz.symm (s2.extBut _ _ D.i1z.symm z1)))
  have kp:∀ c o,c ≠ z→c ≠ TO→c ≠ i1→c ≠ i2→s.heap.get? c = some o→g5.get? c = some o:=fun c o n1 n2 n3 n4 e=>s5.extBut _ _ n2 (s4.extBut _ _ n4 (s3.extBut _ _ n2 (s2.extBut _ _ n3 (s1.extBut _ _ n1 e))))
  have a5:ItK k1 g5 i1 l1 (n + 1):=a2.mv fun o e=>s5.extBut _ _ D.TOi1.symm (s4.extBut _ _ D.i12 (s3.extBut _ _ D.TOi1.symm e))
  have b5:ItK k2 g5 i2 l2 (n + 1):=a4.mv fun o e=>s5.extBut _ _ D.TOi2.symm e
  have zlt : z < g5.objs.size := Heap.lt_size z5
  show wpAny _ _ (Builtin.SmallTypes.ownedTupleHandOut (Value.ref z) (Value.ref g5.objs.size) >>= _) _ _ _
  refine wpAny_bind ?_; unfold Builtin.SmallTypes.ownedTupleHandOut
  have z6:IsZip (g5.push { cls:=.type "tuple",data:=.seq #[x,y] }) z TI TO .ellipsis:=Heap.get?_push_of_some _ z5
  refine wpAny_bind (wpAny_setField_rec z6 (by simp) fun g7 z7 s7=>?_)
  have z7 : IsZip g7 z TI TO (rawInt g5.objs.size) := z7
  refine wpAny_setField_rec z7 (by simp) fun g8 z8 s8 => ?_
  have z8 : IsZip g8 z TI TO (rawInt g5.objs.size) := z8
  have up:∀ c o,c ≠ z→g5.get? c = some o→g8.get? c = some o:=fun c o n1 e=>s8.extBut _ _ n1 (s7.extBut _ _ n1 (Heap.get?_push_of_some _ e))
  have t8:IsPair g8 g5.objs.size x y:=s8.extBut _ _ (Nat.ne_of_gt zlt) (s7.extBut _ _ (Nat.ne_of_gt zlt) (Heap.get?_push_size _ rfl))
  rw [sz] at z8 t8
  refine wpAny_pure ⟨_, rfl, ?_⟩
  show wpAny _ _ (pure (some (Value.ref g5.objs.size))) _ _ _
  rw [sz]
  exact wpAny_pure (q g8 z8 (up _ _ D.TOz o5) (a5.mv fun o e=>up _ o D.i1z e) (b5.mv fun o e=>up _ o D.i2z e) t8 fun c o n1 n2 n3 n4 e=>up c o n1 (kp c o n1 n2 n3 n4 e))
theorem zipK_end {k1 k2:Bool} {z TI TO i1 i2 l1 l2:Addr} {n:Nat} {xs ys:Array Value} {Q:Option Value→Shared→Prop} (hh:A.handled = none) (D:ZipApart z TI TO i1 i2 l1 l2) (Z:ZAt k1 k2 z TI TO i1 i2 l1 l2 n s.heap)
    (hl1:SeK k1 s.heap l1 xs) (hl2:SeK k2 s.heap l2 ys) (hend:xs[n]? = none ∨ ys[n]? = none)
    (q:∀ g,(∀ c o,c ≠ z→c ≠ TO→c ≠ i1→c ≠ i2→s.heap.get? c = some o→g.get? c = some o)→Q none { s with heap:=g }):wpAny (model prog w) A (pyNext (.ref z)) Q E s:=by
  obtain ⟨Zz, Zi, ⟨a, b, Zo⟩, Za, Zb⟩ := Z
  have hT : s.TypeIs (.ref z) "zip" := ⟨_, Zz, rfl⟩
  unfold pyNext; refine wpAny_bind (wpAny_attempt (wpAny_callSpecial?_slot (name:=Str.ofString "__next__") hT F.slot_zip_next (wpAny_call_entry F.slot_zip_next hT F.entry_zip_next ?_ (F.args_zip_next_1 _))))
  show wpAny _ _ (field (Value.ref z) 2 >>= _) _ _ _
  refine wpAny_bind (wpAny_field Zz rfl (x:=.bool false) rfl ?_)
  show wpAny _ _ (field (Value.ref z) 3 >>= _) _ _ _
  refine wpAny_bind (wpAny_field Zz rfl (x:=.ref TI) rfl ?_)
  refine wpAny_bind (wpAny_seqItems Zi rfl ?_)
  show wpAny _ _ (Builtin.SmallTypes.ownedTupleIsFree (Value.ref z) >>= _) _ _ _
  refine wpAny_bind ?_; unfold Builtin.SmallTypes.ownedTupleIsFree
  refine wpAny_bind (wpAny_field Zz rfl (x:=.none) rfl (wpAny_pure ?_)); simp only [if_true]; refine wpAny_bind (wpAny_rule ?_)
  refine wpAny_bind (wpAny_field Zz rfl (x:=.ref TO) rfl ?_)
  refine wpAny_bind (wpAny_setField_rec Zz (by simp) fun g1 z1 s1=>?_)
  have z1 : IsZip g1 z TI TO .ellipsis := z1
  refine wpAny_bind ?_; simp only [List.zipIdx_cons,List.zipIdx_nil,List.forIn_cons,List.forIn_nil]
  refine wpAny_bind (wpAny_bind (wpAny_onRaise ?_)); show wpAny _ _ (Builtin.SmallTypes.nextOf (Value.ref i1) >>= _) _ _ _
  cases hx : xs[n]? with
  | none =>
    refine wpAny_bind (nextK_end hh (Za.mv fun o e=>s1.extBut _ _ D.i1z e) (hl1.mv fun o e=>s1.extBut _ _ D.l1z e) hx fun g2 e s2 ⟨oe,he,ce⟩=>?_)
    have z2:IsZip g2 z TI TO .ellipsis:=s2 _ _ D.i1z.symm z1
    have ne:e ≠ z:=fun x=>by subst x; rw [z2] at he; cases he; simp at ce
    refine wpAny_setField_rec z2 (by simp) fun g3 _ s3 => ?_
    exact wpAny_bind (wpAny_isInstance (T:="StopIteration") (b:=true) ⟨oe,s3.extBut _ _ ne he,ce⟩ isSubtype_stop (wpAny_pure (q g3 fun c o n1 _ n3 _ x=>s3.extBut _ _ n1 (s2 _ _ n3 (s1.extBut _ _ n1 x)))))
  | some x =>
    have hy:ys[n]? = none:=by rcases hend with h | h; rw [hx] at h; cases h; exact h
    refine wpAny_bind (nextK_item (Za.mv fun o e=>s1.extBut _ _ D.i1z e) (hl1.mv fun o e=>s1.extBut _ _ D.l1z e) hx fun g2 a2 s2=>wpAny_pure ?_)
    have o2:IsPair g2 TO a b:=s2.extBut _ _ D.TOi1 (s1.extBut _ _ D.TOz Zo)
    refine wpAny_bind (wpAny_seqItems o2 rfl ?_)
    refine wpAny_bind (wpAny_updateSeq_pair o2 fun g3 o3 s3=>?_)
    refine wpAny_bind (wpAny_letGo (wpAny_pure ?_))
    refine wpAny_bind (wpAny_bind (wpAny_onRaise ?_)); show wpAny _ _ (Builtin.SmallTypes.nextOf (Value.ref i2) >>= _) _ _ _
    refine wpAny_bind (nextK_end hh (Zb.mv fun o e=>s3.extBut _ _ D.TOi2.symm (s2.extBut _ _ D.i12.symm (s1.extBut _ _ D.i2z e))) (hl2.mv fun o e=>s3.extBut _ _ D.l2TO (s2.extBut _ _ D.l2i1 (s1.extBut _ _ D.l2z e))) hy fun g4 e s4 ⟨oe,he,ce⟩=>?_)
    have z4:IsZip g4 z TI TO .ellipsis:=s4 _ _ D.i2z.symm (s3.extBut _ _ D.TOz.symm (s2.extBut _ _ D.i1z.symm z1))
    have ne:e ≠ z:=fun x=>by subst x; rw [z4] at he; cases he; simp at ce
    refine wpAny_setField_rec z4 (by simp) fun g5 _ s5 => ?_
    exact wpAny_bind (wpAny_isInstance (T:="StopIteration") (b:=true) ⟨oe,s5.extBut _ _ ne he,ce⟩ isSubtype_stop (wpAny_pure (q g5 fun c o n1 n2 n3 n4 x=>s5.extBut _ _ n1 (s4 _ _ n4 (s3.extBut _ _ n2 (s2.extBut _ _ n3 (s1.extBut _ _ n1 x)))))))
def itO (kd : Bool) (l : Addr) : Obj := match kd with
  | true=>{ cls:=.type "list_iterator",data:=.fields #[.ref l,.int 0 0] }
  | false=>{ cls:=.type "tuple_iterator",data:=.fields #[.ref l,.int 0 0] }
theorem iterK {kd:Bool} {l:Addr} {xs:Array Value} {Q:Value→Shared→Prop} (h:SeK kd s.heap l xs) (q:Q (.ref s.heap.objs.size) { s with heap:=s.heap.push (itO kd l) }):wpAny (model prog w) A (pyIter (.ref l)) Q E s:=by
  cases kd with
  | true => exact wpAny_pyIter_list h q
  | false => exact wpAny_pyIter_tuple h q
theorem itK_of {kd:Bool} {h:Heap} {i l:Addr} (e:h.get? i = some (itO kd l)):ItK kd h i l 0:=by
  cases kd with
  | true => exact ⟨_, e, rfl, rfl⟩
  | false => exact ⟨_, e, rfl, rfl⟩
end
abbrev zK1 (k1:Bool) (h:Heap) (l1:Addr):Heap:=h.push (itO k1 l1)
abbrev zK2 (k1 k2:Bool) (h:Heap) (l1 l2:Addr):Heap:=(zK1 k1 h l1).push (itO k2 l2)
abbrev zK3 (k1 k2:Bool) (h:Heap) (l1 l2:Addr):Heap:=(zK2 k1 k2 h l1 l2).push { cls:=.type "tuple",data:=.seq #[.ref h.objs.size,.ref (zK1 k1 h l1).objs.size] }
abbrev zK4 (k1 k2:Bool) (h:Heap) (l1 l2:Addr):Heap:=(zK3 k1 k2 h l1 l2).push { cls:=.type "tuple",data:=.seq #[.none,.none] }
abbrev zK5 (k1 k2:Bool) (h:Heap) (l1 l2:Addr):Heap:=(zK4 k1 k2 h l1 l2).push { cls:=.type "zip",data:=.fields #[.none,.bool false,.bool false,.ref (zK2 k1 k2 h l1 l2).objs.size,.ref (zK3 k1 k2 h l1 l2).objs.size] }
theorem zipK_new (k1 k2:Bool) (l1 l2:Addr) (xs ys:Array Value) :
    Meets (Builtin.«zip.__new__» ⟨[.type "zip",.ref l1,.ref l2],[]⟩) (fun _ R s=>SeK k1 s.heap l1 xs∧SeK k2 s.heap l2 ys∧R (.ok (.ret (.ref (zK4 k1 k2 s.heap l1 l2).objs.size))) { s with heap:=zK5 k1 k2 s.heap l1 l2 }) :=
  .of_wp fun prog w A R s h => by
    obtain ⟨hp, g, d, tk, os⟩ := s; obtain ⟨a1, a2, h⟩ := h
    have hsub := sub_zip
    have b1:SeK k1 (Shared.heap ⟨hp,g,d,tk,os⟩) l1 xs:=a1
    have b2:SeK k2 (Shared.heap ⟨hp.push (itO k1 l1),g,d,tk,os⟩) l2 ys:=a2.mv fun o e=>Heap.get?_push_of_some _ e
    wp_walk using iterK b1, iterK b2
    exact ⟨_, rfl, h⟩
section
variable {prog:Program} {w:World} {A:Around} {E:Value→Shared→Prop} {s:Shared}
theorem call_zipK {k1 k2:Bool} {l1 l2:Addr} {xs ys:Array Value} {Q:Value→Shared→Prop} (h1:SeK k1 s.heap l1 xs) (h2:SeK k2 s.heap l2 ys)
    (q:∀ g,ZAt k1 k2 (s.heap.objs.size + 4) (s.heap.objs.size + 2) (s.heap.objs.size + 3) s.heap.objs.size (s.heap.objs.size + 1) l1 l2 0 g→(∀ c o,s.heap.get? c = some o→g.get? c = some o)→Q (.ref (s.heap.objs.size + 4)) { s with heap:=g }) :
    wpAny (model prog w) A (call (.type "zip") [.ref l1,.ref l2]) Q E s:=by
  refine callType_new F.called_zip (by decide) (F.typeCall_zip_2 _ _) (F.newCall_zip_2 _ _) (fun obj=>F.args_object_init_3 obj _ _) F.entry_zip_new (zipK_new k1 k2 l1 l2 xs ys) ⟨h1,h2,?_⟩
  have m1:(zK1 k1 s.heap l1).objs.size = s.heap.objs.size + 1:=Heap.size_push ..
  have m2:(zK2 k1 k2 s.heap l1 l2).objs.size = s.heap.objs.size + 2:=by rw [Heap.size_push,m1]
  have m3:(zK3 k1 k2 s.heap l1 l2).objs.size = s.heap.objs.size + 3:=by rw [Heap.size_push,m2]
  have m4:(zK4 k1 k2 s.heap l1 l2).objs.size = s.heap.objs.size + 4:=by rw [Heap.size_push,m3]
  have fz:∀ l,(itO k1 l).isFreed = false:=fun l=>by cases k1 <;> rfl
  have fz2:∀ l,(itO k2 l).isFreed = false:=fun l=>by cases k2 <;> rfl
  have g5:(zK5 k1 k2 s.heap l1 l2).get? (zK4 k1 k2 s.heap l1 l2).objs.size = some _:=Heap.get?_push_size _ rfl
  have g4:(zK5 k1 k2 s.heap l1 l2).get? (zK3 k1 k2 s.heap l1 l2).objs.size = some _:=Heap.get?_push_of_some _ (Heap.get?_push_size _ rfl)
  have g3:(zK5 k1 k2 s.heap l1 l2).get? (zK2 k1 k2 s.heap l1 l2).objs.size = some _:=Heap.get?_push_of_some _ (Heap.get?_push_of_some _ (Heap.get?_push_size _ rfl))
  have g2:(zK5 k1 k2 s.heap l1 l2).get? (zK1 k1 s.heap l1).objs.size = some (itO k2 l2):=Heap.get?_push_of_some _ (Heap.get?_push_of_some _ (Heap.get?_push_of_some _ (Heap.get?_push_size _ (fz2 _))))
  have g1:(zK5 k1 k2 s.heap l1 l2).get? s.heap.objs.size = some (itO k1 l1):=Heap.get?_push_of_some _ (Heap.get?_push_of_some _ (Heap.get?_push_of_some _ (Heap.get?_push_of_some _ (Heap.get?_push_size _ (fz _)))))
  show _ ∧ _
  rw [m2, m3, m4] at g5
  rw [m1, m2] at g3
  rw [m3] at g4
  rw [m1] at g2
  rw [m4]
  exact ⟨⟨_,g5,rfl⟩,q _ ⟨g5,g3,⟨_,_,g4⟩,itK_of g1,itK_of g2⟩ fun c o x=>Heap.get?_push_of_some _ (Heap.get?_push_of_some _ (Heap.get?_push_of_some _ (Heap.get?_push_of_some _ (Heap.get?_push_of_some _ x))))⟩
end
section
variable {X : Cx}
theorem inv_moved {pins:List (Addr × Obj)} {σ:L2.St} {H:Hp} {s:Shared} {h':Heap} {t':Nat} {fp:List Addr} (I:Inv X pins σ H s) (k:∀ b o,b ∉ fp→s.heap.get? b = some o→h'.get? b = some o) (hf:∀ b ∈ fp,FpOk X pins H b) :
    Inv X pins σ H { s with heap := h', toks := t' } := by
  have nit:∀ b u,H b = some u→b ∉ fp:=fun b u e z=>by rw [(hf b z).1] at e; cases e
  refine I.step (g':=s.gens) (d':=s.drawn) (ch:=fp) (fun b hb=>?_) (fun b o _ _ hc e _=>k b o hc e) (fun b o _ _ hc e _=>⟨o.slots,k b o hc e⟩) (fun _ _ _ _ n=>n) (fun b o hc e=>⟨o,k b o hc e⟩) (fun _ _ e=>e) (fun _ _ _ e=>e)
    (fun b ps e=>⟨#[],by rw [e]; simp⟩) (fun m hm=>?_) (fun b u e=>?_) I.bare
  · obtain ⟨_, f1, f2, f3, f4, f5⟩ := hf b hb
    exact ⟨f3, f1, f4, f5⟩
  · obtain ⟨o, es, ep, ho, r⟩ := hm
    exact ⟨o,es,ep,k _ o (fun z=>(hf _ z).2.1 rfl) ho,r⟩
  · refine (I.hok b u e).stay (fun c v hc q=>k c v ?_ q) (fun _ q=>q) fun _ _ q=>q
    rcases hc with z | z
    · rw [z]; exact nit b u e
    · exact nit c _ z
theorem inv_zipped {pins:List (Addr × Obj)} {σ:L2.St} {H:Hp} {s:Shared} {h':Heap} {t':Nat} {fp:List Addr} {a:Addr} {o:HO} (I:Inv X pins σ H s) (k:∀ b o,b ∉ fp→s.heap.get? b = some o→h'.get? b = some o) (hf:∀ b ∈ fp,FpOk X pins H b)
    (hp:s.heap.objs.size ≤ a) (new:ObjOk X.prog X.w (upd H a o) h' a o):Inv X pins σ (upd H a o) { s with heap:=h',toks:=t' }:=by
  have hn := I.hok.fresh hp
  have nit:∀ b u,H b = some u→b ∉ fp:=fun b u e z=>by rw [(hf b z).1] at e; cases e
  have old:∀ b u,H b = some u→upd H a o b = some u:=fun b u e=>by rw [upd_ne (ne_of_none e hn)]; exact e
  refine I.step (g':=s.gens) (d':=s.drawn) (ch:=fp) (fun b hb=>?_) (fun b o _ _ hc e _=>k b o hc e) (fun b o _ _ hc e _=>⟨o.slots,k b o hc e⟩) (fun b u _ e n=>?_) (fun b o hc e=>⟨o,k b o hc e⟩) (fun b xs e=>old b _ e) (fun b ob u e=>old b _ e)
    (fun b ps e=>⟨#[],by rw [old b _ e]; simp⟩) (fun m hm=>?_) (fun b u e=>?_) I.bare
  · obtain ⟨_, f1, f2, f3, f4, f5⟩ := hf b hb
    exact ⟨f3, f1, f4, f5⟩
  · rw [upd_ne (Nat.ne_of_lt (Nat.lt_of_lt_of_le (Heap.lt_size e) hp))]
    exact n
  · obtain ⟨o, es, ep, ho, r⟩ := hm
    exact ⟨o,es,ep,k _ o (fun z=>(hf _ z).2.1 rfl) ho,r⟩
  · by_cases hb : b = a
    · subst hb; rw [upd_same] at e; cases e; exact new
    · rw [upd_ne hb] at e
      refine (I.hok b u e).stay (fun c v hc q=>k c v ?_ q) (fun c q=>old c _ q) fun c xs q=>old c _ q
      rcases hc with z | z
      · rw [z]; exact nit b u e
      · exact nit c _ z
theorem sq_val {kd:Bool} {pins:List (Addr × Obj)} {σ:L2.St} {H:Hp} {s:Shared} {a:Addr} {xs:List V} (I:Inv X pins σ H s) (h:SqK kd X.K H a xs):∃ its:List Value,Vals xs its∧SeK kd s.heap a its.toArray:=by
  cases kd with
  | true=>obtain ⟨its,r,p,_⟩:=I.list h; exact ⟨its,r,p.isList⟩
  | false=>obtain ⟨its,r,p,_⟩:=I.tuple h; exact ⟨its,r,p⟩
theorem sq_inj {kd:Bool} {pins:List (Addr × Obj)} {σ:L2.St} {H:Hp} {s:Shared} {a:Addr} {xs ys:List V} (I:Inv X pins σ H s) (h:SqK kd X.K H a xs) (h':SqK kd X.K H a ys):xs = ys:=by
  cases kd with
  | true => exact I.list_inj h h'
  | false => exact I.tuple_inj h h'
def Itz (k1 k2:Bool) (K:PySem.W.Frag) (a b:Addr):It :=
  ⟨fun i H=>∃ xs ys x y,SqK k1 K H a xs∧SqK k2 K H b ys∧xs[i]? = some x∧ys[i]? = some y,
   fun i H v H'=>∃ t x y,v = .ref t∧H t = none∧H' = upd H t (.tup [x,y])∧(∀ xs,SqK k1 K H a xs→xs[i]? = some x)∧∀ ys,SqK k2 K H b ys→ys[i]? = some y,
   fun i H=>∃ xs ys,SqK k1 K H a xs∧SqK k2 K H b ys∧(xs.length ≤ i ∨ ys.length ≤ i)⟩
theorem apart_new {n l1 l2:Nat} (h1:l1 < n) (h2:l2 < n):ZipApart (n + 4) (n + 2) (n + 3) n (n + 1) l1 l2:=by
  constructor <;> (show @Ne Nat _ _) <;> omega
theorem turn_zip {P:Program} {w:World} {K:PySem.W.Frag} {es:List Expr} {x1} {pos:Pos} {k1 k2:Bool} {z TI TO i1 i2 a b:Addr} (D:ZipApart z TI TO i1 i2 a b) :
    Turn P w K (.Tuple es x1 pos) (Itz k1 k2 K a b) [z,TI,TO,i1,i2] z (ZAt k1 k2 z TI TO i1 i2 a b) where
  mem := by simp
  obj := fun i h Z c hc => by
    have hc:c = z ∨ c = TI ∨ c = TO ∨ c = i1 ∨ c = i2:=by simpa using hc
    rcases hc with rfl | rfl | rfl | rfl | rfl
    · exact ⟨_, Z.z, fun v e => by cases e⟩
    · exact ⟨_, Z.ti, fun v e => by cases e⟩
    · obtain ⟨u, v, e⟩ := Z.to
      exact ⟨_, e, fun v e => by cases e⟩
    · exact Z.a.ob
    · exact Z.b.ob
  keep := fun i h h' Z k => by
    obtain ⟨u, v, e⟩ := Z.to
    exact ⟨k z (by simp) _ Z.z,k TI (by simp) _ Z.ti,⟨u,v,k TO (by simp) _ e⟩,Z.a.mv fun o q=>k i1 (by simp) o q,Z.b.mv fun o q=>k i2 (by simp) o q⟩
  item := by
    intro X hP hw hK hc i pins s σ H E I hf Z hg
    subst hP hw hK
    obtain ⟨xs, ys, x, y, q1, q2, e1, e2⟩ := hg
    obtain ⟨us, r1, p1⟩ := sq_val I q1
    obtain ⟨vs, r2, p2⟩ := sq_val I q2
    obtain ⟨u, hu, ru⟩ := r1.get e1
    obtain ⟨v, hv, rv⟩ := r2.get e2
    have F := fun c (m : c ∈ [z, TI, TO, i1, i2]) => hf c m
    have hfr:H s.heap.objs.size = none:=I.hok.fresh (Nat.le_refl _)
    refine zipK_item D Z p1 p2 (x:=u) (y:=v) (by simpa using hu) (by simpa using hv) fun g a1 a2 a3 a4 a5 kp=>⟨_,rfl,?_⟩
    have zlt : z < s.heap.objs.size := Heap.lt_size Z.z
    have tlt:TO < s.heap.objs.size:=by obtain ⟨_,_,e⟩:=Z.to; exact Heap.lt_size e
    have ilt:i1 < s.heap.objs.size:=by obtain ⟨_,e,_⟩:=Z.a.ob; exact Heap.lt_size e
    have jlt:i2 < s.heap.objs.size:=by obtain ⟨_,e,_⟩:=Z.b.ob; exact Heap.lt_size e
    refine wpAny_letOwnedTupleGo_zip (s:={ s with heap:=g }) a1 fun g' z' s'=>?_
    have kp':∀ c o,c ≠ z→c ≠ TO→c ≠ i1→c ≠ i2→s.heap.get? c = some o→g'.get? c = some o:=fun c o n1 n2 n3 n4 e=>s'.extBut _ _ n1 (kp c o n1 n2 n3 n4 e)
    have a5':IsPair g' s.heap.objs.size u v:=s'.extBut _ _ (Nat.ne_of_gt zlt) a5
    have I1:Inv X pins σ (upd H s.heap.objs.size (.tup [x,y])) { s with heap:=g' }:=by
      refine inv_zipped I (fp:=[z,TO,i1,i2]) (fun c o hc e=>kp' c o (fun x=>hc (by simp [x])) (fun x=>hc (by simp [x])) (fun x=>hc (by simp [x])) (fun x=>hc (by simp [x])) e) ?_ (Nat.le_refl _) ?_
      · intro c hc
        exact hf c (by simp at hc ⊢; rcases hc with h | h | h | h <;> simp [h])
      · exact ⟨by show 2 ≤ sizeLine; decide,[u,v],.cons ru (.cons rv .nil),⟨_,a5',rfl,_,rfl⟩⟩
    refine ⟨.ref s.heap.objs.size,_,I1,rfl,⟨_,x,y,rfl,hfr,rfl,fun zs hz=>by rw [sq_inj I hz q1]; exact e1,fun zs hz=>by rw [sq_inj I hz q2]; exact e2⟩,?_,?_⟩
    · exact ⟨z',kp' _ _ D.TIz D.TITO D.TIi1 D.TIi2 Z.ti,⟨_,_,s'.extBut _ _ D.TOz a2⟩,a3.mv fun o e=>s'.extBut _ _ D.i1z e,a4.mv fun o e=>s'.extBut _ _ D.i2z e⟩
    · intro c hc
      have hlt : c < s.heap.objs.size := by
        have hc:c = z ∨ c = TI ∨ c = TO ∨ c = i1 ∨ c = i2:=by simpa using hc
        rcases hc with rfl | rfl | rfl | rfl | rfl
        · exact zlt
        · exact Heap.lt_size Z.ti
        · exact tlt
        · exact ilt
        · exact jlt
      rw [upd_ne (Nat.ne_of_lt hlt)]
      exact (hf c hc).1
  done := by
    intro X hP hw hK hc i pins s σ H E I hf Z hg
    subst hP hw hK
    obtain ⟨xs, ys, q1, q2, e⟩ := hg
    obtain ⟨us, r1, p1⟩ := sq_val I q1
    obtain ⟨vs, r2, p2⟩ := sq_val I q2
    have l1 := r1.length
    have l2 := r2.length
    have he:us.toArray[i]? = none ∨ vs.toArray[i]? = none:=by
      rcases e with e | e
      · left
        simp
        omega
      · right
        simp
        omega
    refine zipK_end (I.ok.hd hc) D Z p1 p2 he fun g kp=>⟨rfl,?_⟩
    refine inv_moved I (fp:=[z,TO,i1,i2]) (fun c o hc e=>kp c o (fun x=>hc (by simp [x])) (fun x=>hc (by simp [x])) (fun x=>hc (by simp [x])) (fun x=>hc (by simp [x])) e) ?_
    intro c hc
    exact hf c (by simp at hc ⊢; rcases hc with h | h | h | h <;> simp [h])
  self := fun _ _ _ _ _ Z h => wpAny_pyIter_zip Z.z h
def iZip (k1 k2:Bool) (K:PySem.W.Frag) (ta:TA):TI:=fun σ H R=>ta σ H fun vs H1=>match vs with
  | [.ref a,.ref b]=>(∃ xs,SqK k1 K H1 a xs)∧(∃ ys,SqK k2 K H1 b ys)∧R (Itz k1 k2 K a b) H1
  | _ => False
theorem pi_zip (k1 k2:Bool) {a b:Expr} {ta:TA} {p pos:Pos} {es:List Expr} {x1} {tp:Pos} (hg:Gl X "zip") (hm:X.mg "zip" = none) (ha:PA X [a,b] ta) (hs:starEach [a,b] X.env = [(false,eval a X.env),(false,eval b X.env)]:=by rfl)
    (hs2:starEach [b] X.env = [(false,eval b X.env)]:=by rfl):PI X (.Tuple es x1 tp) (.Call (.Name "zip" p) [a,b] [] pos) (iZip k1 k2 X.K ta):=by
  intro pins s σ H R I h
  refine Call_ (ld_blt I hg hm boot_zip (PyProof.Rows.callWith_type1 (thn (ha pos pins s σ H _ I h) fun us s1 ⟨vs,H1,I1,r1,q1⟩=>?_) (by rw [hs,hs2]) (by rw [hs2]; rfl)))
  match vs, q1 with
  | [.ref l1, .ref l2], ⟨⟨xs, hx⟩, ⟨ys, hy⟩, q⟩ =>
    obtain ⟨u, v, rfl, e1, e2⟩ := vals2 r1
    cases (show u = Value.ref l1 from e1)
    cases (show v = Value.ref l2 from e2)
    obtain ⟨us', _, p1⟩ := sq_val I1 hx
    obtain ⟨vs', _, p2⟩ := sq_val I1 hy
    have lt1 := p1.lt
    have lt2 := p2.lt
    refine call_zipK p1 p2 fun g Z kp=>wpAny_pyIter_zip (s:={ s1 with heap:=g }) Z.z ?_
    have I2:Inv X pins σ H1 { s1 with heap:=g }:=I1.kept (t':=s1.toks) kp
    refine ⟨_,[s1.heap.objs.size + 4,s1.heap.objs.size + 2,s1.heap.objs.size + 3,s1.heap.objs.size,s1.heap.objs.size + 1],_,_,H1,rfl,I2,turn_zip (apart_new lt1 lt2),Z,fun c hc=>?_,q⟩
    have hc : @LE.le Nat _ s1.heap.objs.size c := by
      have hc:c = s1.heap.objs.size + 4 ∨ c = s1.heap.objs.size + 2 ∨ c = s1.heap.objs.size + 3 ∨ c = s1.heap.objs.size ∨ c = s1.heap.objs.size + 1:=by simpa using hc
      rcases hc with h | h | h | h | h <;> rw [h] <;> first | exact Nat.le_refl _ | exact Nat.le_add_right _ _
    exact I1.fpOk hc (I1.hok.fresh hc)
end
section
variable {X : Cx}
def dCatL : R2 := fun x y H Q => match x, y with
  | .ref l,.ref b=>∃ xs zs,H l = some (.lst xs)∧H b = some (.lst zs)∧xs.length + zs.length ≤ 1000∧∀ p H',Same H H'→H' p = some (.lst (xs ++ zs))→Q (.ref p) H'
  | _, _ => False
theorem o_catL : OpR X (binaryOp .Add) dCatL := by
  intro pins s σ H x y v u Q I rx ry q
  cases x <;> cases y <;> first
    | exact False.elim q
    | (obtain ⟨xs, zs, h1, h2, h3, q⟩ := q
       exact op_cat _ _ _ _ _ _ _ _ _ I rx ry ⟨_,_,xs,zs,rfl,rfl,h1,h2,Nat.le_trans h3 (by decide),fun p hp=>q p _ (same_upd hp) upd_same⟩)
def dSlL (K:PySem.W.Frag):V→Option Int→Option Int→Hp→VK→Prop:=fun x lo hi H Q=>match x with
  | .ref a=>∃ xs,SqL K H a xs∧∀ p H',Same H H'→H' p = some (.lst (cutV xs lo hi))→Q (.ref p) H'
  | _ => False
theorem sl_lst : SlR X (dSlL X.K) := by
  intro pins s σ H x v vl vu lo hi sl Q I rx hs pl pu h
  cases x <;> first
    | exact False.elim h
    | (obtain ⟨xs, h1, q⟩ := h
       exact sl_list _ _ _ _ _ _ _ _ _ _ _ _ I rx hs pl pu ⟨_,xs,rfl,h1,fun p hp=>q p _ (same_upd hp) upd_same⟩)
end
end Lw
end
section
set_option Elab.async false
set_option linter.all false
set_option maxRecDepth 100000
set_option maxHeartbeats 4000000
namespace Lw
open PySem PySem.Spec PyProof.Rows L2
section
variable {X : Cx} {pos : Pos}
end
end Lw
end
section
set_option Elab.async false
set_option linter.all false
set_option maxRecDepth 100000
set_option maxHeartbeats 4000000
namespace Lw
open PySem PySem.Spec PyProof.Rows L2
section
variable {prog:Program} {w:World} {A:Around} {R:Result→Shared→Prop} {s:Shared}
theorem turn_eq (elt tg iter:Expr) (scope:Scope) (pos:Pos) (it acc:Value) (env:Env) :
    compTurn (.ListComp elt [⟨tg,iter,[],0⟩] scope pos) 0 it acc env = (standAt iter.pos >>= fun _=>pyNext it >>= fun r=>match r with
      | none => pure (.done .next)
      | some v=>letOwnedTupleGo tg it v >>= fun _=>assign tg env v >>= fun _=>(eval elt env >>= fun x=>call (.builtin "list.append") [acc,x] >>= fun _=>pure ()) >>= fun _=>again (.compLoop (.ListComp elt [⟨tg,iter,[],0⟩] scope pos) 0 it acc env)):=rfl
theorem loop_comp {elt tg iter:Expr} {scope:Scope} {pos:Pos} {it acc:Value} {env:Env} (I:Nat→Shared→Prop)
    (turn:∀ n s,I n s→wpAny (model prog w) A (pyNext it) (fun r s1=>(r = none∧R (.ok .next) s1) ∨ ∃ v,r = some v∧wpAny (model prog w) A (letOwnedTupleGo tg it v) (fun _ s2=>wpAny (model prog w) A (assign tg env v) (fun _ s3 =>
      wpAny (model prog w) A (eval elt env) (fun x s4=>wpAny (model prog w) A (call (.builtin "list.append") [acc,x]) (fun _ s5=>∃ m,m < n∧I m s5) (fun _ _=>False) s4) (fun _ _=>False) s3) (fun _ _=>False) s2) (fun _ _=>False) s1) (fun _ _=>False) s)
    (n:Nat) (h:I n s):codeAny (model prog w) A (.compLoop (.ListComp elt [⟨tg,iter,[],0⟩] scope pos) 0 it acc env) R s:=by
  refine codeAny_loop rfl I (fun n s hI => ?_) n h
  show wpAny _ _ ((compTurn (.ListComp elt [⟨tg,iter,[],0⟩] scope pos) 0 it acc env).onRaise (fun x=>do noteFrame x env; theTreesLotGoes x)) _ _ s
  refine wpAny_noted ?_
  rw [turn_eq]
  refine wpAny_bind (wpAny_standAt (wpAny_bind (wpAny_mono (turn n s hI) (fun r s1 h1=>?_) fun _ _ z=>z.elim)))
  rcases h1 with ⟨rfl, h1⟩ | ⟨v, rfl, h1⟩
  · exact wpAny_pure h1
  · refine wpAny_bind (wpAny_mono h1 (fun _ s2 h2=>?_) fun _ _ z=>z.elim)
    refine wpAny_bind (wpAny_mono h2 (fun _ s3 h3=>?_) fun _ _ z=>z.elim)
    refine wpAny_bind (wpAny_bind (wpAny_mono h3 (fun x s4 h4=>?_) fun _ _ z=>z.elim))
    refine wpAny_bind (wpAny_mono h4 (fun _ s5 h5=>?_) fun _ _ z=>z.elim)
    exact wpAny_pure (wpAny_pure ⟨rfl, h5⟩)
end
abbrev cxC (X:Cx) (N:List Str) (s₀:Shared) (H₀:Hp) (env:Env) (fp:List Addr):Cx :=
  { X with N:=N,s₀:=s₀,H₀:=H₀,env:=env,outer:=X.stack,ex:=fp,fn:=fun _=>false,pn:=[],xe:=fun _ _=>False }
structure Cap (X:Cx) (sc:Scope) (cl:List (Str × Addr)) (j:Nat) (y:Str):Prop where
  nm : X.N[j]? = some y
  ko : X.env.kindOf y = some .cell
  ki : sc.names.lookup y = some .cell
  cl : cl.lookup y = X.env.cells.lookup y
def capσ (js:List Nat) (σ:L2.St):L2.St:=js.map fun j=>(σ[j]?).join
@[irreducible] def CGoal (J:It) (g:TG) (te:TE) (k:Nat) (js:List Nat) (σ:L2.St) (H1:Hp) (Q:VK):Prop:=∀ D,H1 D = none→∃ W:Nat→Nat→Hp→Prop,(∃ m,W 0 m (upd H1 D (.lst [])))∧∀ i m H,W i m H →
  (J.stop i H∧Q (.ref D) H) ∨ (J.go i H∧∀ x H',J.yld i H x H'→g x (List.replicate k none ++ capσ js σ) H' fun σ2 H2=>σ2.drop k = capσ js σ∧te σ2 H2 fun v H3=>∃ xs,H3 D = some (.lst xs)∧xs.length < sizeLine∧∃ m',m' < m∧W (i + 1) m' (upd H3 D (.lst (xs ++ [v]))))
def dComp (wi:TI) (g:TG) (te:TE) (k:Nat) (js:List Nat):TE:=fun σ H Q=>wi σ H fun J H1=>CGoal J g te k js σ H1 Q
section
variable {X : Cx}
theorem comp_ok {pins:List (Addr × Obj)} {σ:L2.St} {H:Hp} {s:Shared} {N:List Str} {scope:Scope} {cl:List (Str × Addr)} {C:Addr} {fp:List Addr} (I:Inv X pins σ H s) (hk:scope.kind = .function) (hC:s.heap.objs.size ≤ C)
    (hcl:∀ y c,cl.lookup y = some c→X.env.cells.lookup y = some c) (hhas:∀ y,((relabel scope X.env).names.lookup y = some .cell ∨ (relabel scope X.env).names.lookup y = some .free)→∃ c,cl.lookup y = some c)
    (hf:∀ b ∈ fp,FpOk X pins H b∧b < s.heap.objs.size):(cxC X N s H (compEnvC scope cl C X.env) fp).Ok where
  mod := I.ok.mod
  kind := hk
  glob := I.ok.glob
  blt := I.ok.blt
  above := hC
  inj:=fun x y c e1 e2=>I.ok.inj x y c (hcl x c e1) (hcl y c e2)
  has := fun x h => hhas x h
  cab := fun x c z => absurd z (by simp)
  hd := I.ok.hd
  frames := I.ok.frames
  stk := .inl rfl
  exf:=fun b hb=>⟨Nat.ne_of_lt (Nat.lt_of_lt_of_le (hf b hb).2 hC),fun x c e=>(hf b hb).1.2.2.2.2.1 x c (hcl x c e)⟩
  bs := I.bs
  bsz := Nat.le_trans I.ok.bsz I.sz
  noex := fun b o e hb => by
    rcases (hf b hb).1.2.2.2.1 with z | z
    · exact I.ok.noex b o e z
    · exact absurd (Nat.lt_of_lt_of_le (Heap.lt_size (I.ok.bs b o e).1) z) (Nat.lt_irrefl _)
  exfs := fun b hb hm => by
    rcases List.mem_cons.mp (I.stkSub b hm) with z | z
    · exact (hf b hb).1.2.1 z
    · exact (hf b hb).1.2.2.1 z
  funs := I.stack
  frf := I.stkFree
theorem comp_core {elt iter tg:Expr} {scope:Scope} {pos:Pos} {wi:TI} {te:TE} {g:TG} {N:List Str} {cl:List (Str × Addr)} (k:Nat) (js:List Nat) (hi:PI X tg iter wi)
    (hg:∀ C s H fp,PG (cxC X N s H (compEnvC scope cl C X.env) fp) tg g) (he:∀ C s H fp,PE (cxC X N s H (compEnvC scope cl C X.env) fp) elt te) (hcalm:X.calm = true)
    (hclos:closureFor scope X.env = pure cl) (hkind:scope.kind = .function) (hcell:∀ y ∈ scope.names,y.2 ≠ .cell) (hnames:∀ y ∈ scope.names,y.2 = .local→scope.names.lookup y.1 = some .local)
    (hcl:∀ y c,cl.lookup y = some c→X.env.cells.lookup y = some c) (hhas:∀ y,((relabel scope X.env).names.lookup y = some .cell ∨ (relabel scope X.env).names.lookup y = some .free)→∃ c,cl.lookup y = some c)
    (hlen:N.length = k + js.length) (hcap:∀ i j,js[i]? = some j→∃ y,N[k + i]? = some y∧Cap X (relabel scope X.env) cl j y)
    (hs:∀ x,foldedSetIterable iter X.env x = pure x) {pins:List (Addr × Obj)} {s:Shared} {σ:L2.St} {H:Hp} {Q:VK} (I:Inv X pins σ H s) (h:dComp wi g te k js σ H Q) {cpos:Pos} {use:Option (Value→Sem Unit)} {Qv:Value→Shared→Prop}
    (fin:∀ (s6:Shared) (H5:Hp) (D C:Addr) (m:Str→Option Value),Inv X pins σ H5 s6→s6.heap.Ns C m→H5 C = none→X.s₀.heap.objs.size ≤ C→C ≠ X.env.locals→(∀ x c,X.env.cells.lookup x = some c→c ≠ C)→(∀ p ∈ X.pn ++ pins,p.1 ≠ C)→Q (.ref D) H5 →
      compPost (model X.prog X.w) X.A X.xe use Qv (.ref D) C (.ok .next) s6) :
    wpAny (model X.prog X.w) X.A (comprehension (.ListComp elt [⟨tg,iter,[],0⟩] scope pos) scope X.env cpos (newList []) false (eval iter X.env) use) Qv X.xe s:=by
  refine wpAny_comprehension_free (use:=use) rfl hs hclos hkind hnames (thn (hi pins s σ H _ I h) fun v s1 h1=>thn h1 fun itv s2 h2=>?_)
  obtain ⟨it, fp, tn, J, H2, rfl, I2, T, st2, f2, h2⟩ := h2
  refine wpAny_newObj_type ?_
  have hD:H2 s2.heap.objs.size = none:=I2.hok.fresh (Nat.le_refl _)
  unfold CGoal at h2
  obtain ⟨W, ⟨m0, w0⟩, turn⟩ := h2 _ hD
  have I3:Inv X pins σ (upd H2 s2.heap.objs.size (.lst [])) { s2 with heap:=s2.heap.push { cls:=.type "list",dict:=none,data:=.seq ([]:List Value).toArray } } :=
    I2.laid (t':=s2.toks) (fun b u e=>Heap.get?_push_of_some _ e) (Nat.le_refl _) ⟨Nat.zero_le _,[],0,.nil,Heap.get?_push_size _ rfl⟩
  have hlt:∀ b ∈ fp,b < s2.heap.objs.size:=fun b hb=>by
    obtain ⟨o, e, _⟩ := T.obj _ _ st2 b hb
    exact Heap.lt_size e
  have f3:∀ b ∈ fp,FpOk X pins (upd H2 s2.heap.objs.size (.lst [])) b:=fun b hb=>⟨by rw [upd_ne (Nat.ne_of_lt (hlt b hb))]; exact (f2 b hb).1,(f2 b hb).2⟩
  have st3:tn 0 (s2.heap.push { cls:=.type "list",dict:=none,data:=.seq ([]:List Value).toArray }):=T.keep _ _ _ st2 fun b hb o e=>Heap.get?_push_of_some _ e
  have hlt3:∀ b ∈ fp,b < (s2.heap.push { cls:=.type "list",dict:=none,data:=.seq ([]:List Value).toArray }).objs.size:=fun b hb=>Nat.lt_of_lt_of_le (hlt b hb) (by rw [Heap.size_push]; exact Nat.le_succ _)
  generalize hs3:({ s2 with heap:=s2.heap.push { cls:=.type "list",dict:=none,data:=.seq ([]:List Value).toArray } }:Shared) = s3 at I3
  have eh:s3.heap = s2.heap.push { cls:=.type "list",dict:=none,data:=.seq ([]:List Value).toArray }:=by rw [← hs3]
  rw [← eh] at st3 hlt3
  generalize hDD : s2.heap.objs.size = D at *
  generalize hH3 : upd H2 D (.lst []) = H3 at *
  clear hs3 eh
  refine wpAny_newFunctionEnv (s:=s3) hcell (by intro y hy; simp at hy) (fun h4 n4 sb4=>?_) hkind
  have Ok:=comp_ok (N:=N) (C:=s3.heap.objs.size) I3 hkind (Nat.le_refl _) hcl hhas fun b hb=>⟨f3 b hb,hlt3 b hb⟩
  show codeAny _ _ (.compStart (.ListComp elt [⟨tg,iter,[],0⟩] scope pos) 0 (.ref it) (.ref D) (compEnvC scope cl s3.heap.objs.size X.env)) _ _
  generalize hC : s3.heap.objs.size = C at *
  have old:∀ b o,s3.heap.get? b = some o→h4.get? b = some o:=fun b o e=>sb4.extBut b o (by rw [← hC]; exact Nat.ne_of_lt (Heap.lt_size e)) (Heap.get?_push_of_some _ e)
  have fresh:H3 C = none:=I3.hok.fresh (by rw [hC]; exact Nat.le_refl _)
  have hcapl:∀ {i:Nat} {x:Str} {v:V},N[i]? = some x→(List.replicate k none ++ capσ js σ)[i]? = some (some v)→∃ u,L2.RelV v u∧Look (compEnvC scope cl C X.env) h4 (fun _=>none) x u:=by
    intro i x v e1 e2
    by_cases hik : i < k
    · rw [List.getElem?_append_left (by simpa using hik)] at e2
      rw [List.getElem?_replicate] at e2
      simp [hik] at e2
    · rw [List.getElem?_append_right (by simpa using Nat.le_of_not_lt hik),List.length_replicate] at e2
      unfold capσ at e2
      rw [List.getElem?_map] at e2
      cases ej : js[i - k]? with
      | none =>
        rw [ej] at e2
        cases e2
      | some j =>
        rw [ej] at e2
        have e2:(σ[j]?).join = some v:=Option.some.inj e2
        obtain ⟨y, hy, cp⟩ := hcap _ _ ej
        rw [show k + (i - k) = i by omega, e1] at hy
        cases hy
        obtain ⟨m, _, hl⟩ := I3.loc
        have e3 : σ[j]? = some (some v) := by
          cases q : σ[j]? with
          | none =>
            rw [q] at e2
            cases e2
          | some o =>
            rw [q] at e2
            have : o = some v := e2
            rw [this]
        obtain ⟨u,ru,lk⟩:=hl j x v cp.nm e3 (.inr (.inl cp.ko))
        refine ⟨u, ru, ?_⟩
        rcases lk with ⟨z, _⟩ | ⟨_, c, hc, z⟩
        · rw [cp.ko] at z
          cases z
        · refine .inr ⟨.inl cp.ki,c,by rw [← hc]; exact cp.cl,?_⟩
          obtain ⟨o, e, d⟩ := z
          exact ⟨o, old _ _ e, d⟩
  have I4:Inv (cxC X N s3 H3 (compEnvC scope cl C X.env) fp) [] (List.replicate k none ++ capσ js σ) H3 { s3 with heap:=h4,toks:=s3.toks + ([]:List (Str × Value)).length }:=by
    refine ⟨Ok,rfl,I3.bare,Un.kept old,⟨_,n4,fun i x v e1 e2 e3=>?_⟩,fun x c e=>?_,fresh,fun x c e=>I3.freeC x c (hcl x c e),fun p hp=>absurd hp (by simp),I3.hok.kept old,?_⟩
    · obtain ⟨u, ru, lk⟩ := hcapl e1 e2
      refine ⟨u, ru, ?_⟩
      rcases lk with ⟨z, q⟩ | q
      · cases q
      · exact .inr q
    · obtain ⟨v, o, e1, d⟩ := I3.cell x c (hcl x c e)
      exact ⟨v, o, old _ _ e1, d⟩
    · simp [capσ, hlen]
  have fp4:∀ {H':Hp},(∀ b ∈ fp,H' b = none)→∀ b ∈ fp,FpOk (cxC X N s3 H3 (compEnvC scope cl C X.env) fp) [] H' b:=fun hn b hb =>
    ⟨hn b hb,(Ok.exf b hb).1,Ok.exfs b hb,.inl hb,fun x c e=>(Ok.exf b hb).2 x c e,fun p hp=>absurd hp (by simp)⟩
  have st4:tn 0 h4:=T.keep _ _ _ st3 fun b hb o e=>old b o e
  have run:∀ s4:Shared,s4 = { s3 with heap:=h4,toks:=s3.toks + ([]:List (Str × Value)).length } →
      codeAny (model X.prog X.w) X.A (.compLoop (.ListComp elt [⟨tg,iter,[],0⟩] scope pos) 0 (.ref it) (.ref D) (compEnvC scope cl C X.env)) (compPost (model X.prog X.w) X.A X.xe use Qv (.ref D) C) s4:=by
    rintro s4 rfl
    refine loop_comp (fun n s'=>∃ i H' σ',Inv (cxC X N s3 H3 (compEnvC scope cl C X.env) fp) [] σ' H' s'∧(∀ j:Nat,∀ v,(List.replicate k none ++ capσ js σ)[j]? = some (some v)→σ'[j]? = some (some v))∧tn i s'.heap∧(∀ b ∈ fp,H' b = none)∧W i n H') ?_ m0
      ⟨0,H3,_,I4,fun _ _ z=>z,st4,fun b hb=>(f3 b hb).1,w0⟩
    rintro n s5 ⟨i, H5, σ5, I5, cap5, st5, fr5, w5⟩
    have I5':=I5.weak (σ':=List.replicate k none ++ capσ js σ) (by rw [I5.len]; simp [capσ,hlen]) cap5
    rcases turn i n H5 w5 with ⟨stop, q⟩ | ⟨go, step⟩
    · refine thn (T.done (cxC X N s3 H3 (compEnvC scope cl C X.env) fp) rfl rfl rfl hcalm i [] s5 σ5 H5 _ I5 (fp4 fr5) st5 stop) fun r s6 ⟨hr,I6⟩=>.inl ⟨hr,?_⟩
      obtain ⟨m6, n6, _⟩ := I6.loc
      have hCf : H5 C = none := I6.free
      have u6 := I6.base
      have uC:Un (frs X.stack) fp H3 H5 s3.heap s6.heap:=⟨u6.keep,u6.slot,u6.free,u6.there,u6.tups,u6.frzs,u6.tbls⟩
      have I7:Inv X pins σ H5 s6:=I3.call' (s':=s6) I6.os uC I6.hok I6.bare fun b hb=>⟨(f3 b hb).2.2.2.1,(f3 b hb).2.1,(f3 b hb).2.2.2.2.1,(f3 b hb).2.2.2.2.2⟩
      have lt3:∀ b o,s3.heap.get? b = some o→b ≠ C:=fun b o e=>by rw [← hC]; exact Nat.ne_of_lt (Heap.lt_size e)
      refine fin s6 H5 D C m6 I7 n6 hCf (by rw [← hC]; exact I3.sz) (by rw [← hC]; exact Nat.ne_of_gt I3.lt) (fun x c e=>?_) (fun p hp=>lt3 p.1 p.2 (I3.pin p hp).1) q
      obtain ⟨v, o, e1, _⟩ := I3.cell x c e
      exact lt3 c o e1
    · refine thn (T.item (cxC X N s3 H3 (compEnvC scope cl C X.env) fp) rfl rfl rfl hcalm i [] s5 _ H5 _ I5' (fp4 fr5) st5 go) fun r s6 ⟨u,hr,h6⟩=>.inr ⟨u,hr,?_⟩
      refine thn h6 fun _ s7 ⟨x,H7,I7,r7,y7,st7,fr7⟩=>?_
      have I7' := I7.pinned (fp4 fr7) (T.obj _ _ st7)
      refine thn (hg C s3 H3 fp _ s7 _ H7 x u _ I7' r7 (step x H7 y7)) fun _ s8 ⟨σ8,H8,I8,d8,q8⟩=>?_
      refine thn (he C s3 H3 fp _ s8 σ8 H8 _ I8 q8) fun vv s9 ⟨vx,H9,I9,r9,xs,hx9,hz9,m',hm',w9⟩=>?_
      obtain ⟨z9,its,n9,rl,e9⟩:=(show ObjOk X.prog X.w H9 s9.heap D (.lst xs) from I9.hok D _ hx9)
      have app:=mt_append (X:=cxC X N s3 H3 (compEnvC scope cl C X.env) fp) _ s9 σ8 H9 (.ref D) [vx] (.ref D) [vv] (fun _ H'=>H' = upd H9 D (.lst (xs ++ [vx]))) I9 rfl (.cons r9 .nil) ⟨D,xs,vx,rfl,rfl,hx9,hz9,rfl⟩
      refine thn app fun _ s10 ⟨_, H10, I10, _, e10⟩ => ?_
      subst e10
      refine ⟨m',hm',i + 1,_,σ8,I10.unpinned (pins:=[]),?_,T.keep _ _ _ st7 fun b hb o e=>(I10.pin (b,o) (List.mem_append_right _ (List.mem_append_right _ (mem_pinsAt hb e)))).1,fun b hb=>?_,w9⟩
      · intro j v e
        by_cases hjk : j < k
        · rw [List.getElem?_append_left (by simpa using hjk),List.getElem?_replicate] at e
          simp [hjk] at e
        · rw [List.getElem?_append_right (by simpa using Nat.le_of_not_lt hjk),List.length_replicate,← d8,List.getElem?_drop] at e
          rw [show k + (j - k) = j by omega] at e
          exact e
      · obtain ⟨o, e, d⟩ := T.obj _ _ st7 b hb
        exact (I10.pin (b,o) (List.mem_append_right _ (List.mem_append_right _ (mem_pinsAt hb e)))).2.1
  exact codeAny_compStart_list (run _ rfl) (T.self X.A 0 _ _ _ st4 (run _ rfl))
theorem e_comp {elt iter tg:Expr} {scope:Scope} {pos:Pos} {wi:TI} {te:TE} {g:TG} {N:List Str} {cl:List (Str × Addr)} (k:Nat) (js:List Nat) (hi:PI X tg iter wi)
    (hg:∀ C s H fp,PG (cxC X N s H (compEnvC scope cl C X.env) fp) tg g) (he:∀ C s H fp,PE (cxC X N s H (compEnvC scope cl C X.env) fp) elt te) (hcalm:X.calm = true)
    (hclos:closureFor scope X.env = pure cl) (hkind:scope.kind = .function) (hcell:∀ y ∈ scope.names,y.2 ≠ .cell) (hnames:∀ y ∈ scope.names,y.2 = .local→scope.names.lookup y.1 = some .local)
    (hcl:∀ y c,cl.lookup y = some c→X.env.cells.lookup y = some c) (hhas:∀ y,((relabel scope X.env).names.lookup y = some .cell ∨ (relabel scope X.env).names.lookup y = some .free)→∃ c,cl.lookup y = some c)
    (hlen:N.length = k + js.length) (hcap:∀ i j,js[i]? = some j→∃ y,N[k + i]? = some y∧Cap X (relabel scope X.env) cl j y)
    (hs:∀ x,foldedSetIterable iter X.env x = pure x:=by intro _; rfl):PE X (.ListComp elt [⟨tg,iter,[],0⟩] scope pos) (dComp wi g te k js):=by
  intro pins s σ H Q I h
  rw [eval_ListComp]
  refine comp_core k js hi hg he hcalm hclos hkind hcell hnames hcl hhas hlen hcap hs I h fun s6 H5 D C m I6 n6 z1 z2 z3 z4 z5 q=>⟨m,n6,fun h7 sb7=>⟨.ref D,H5,?_,rfl,q⟩⟩
  exact I6.turned (t':=s6.toks) (fun b o hb e=>(sb7.2 b hb).trans e) z1 z3.symm.symm (.inr z2) z4 z5
theorem ps_comp0 {elt iter tg:Expr} {scope:Scope} {pos py spos:Pos} {i:Nat} {y:Str} {wi:TI} {te:TE} {g:TG} {N:List Str} {cl:List (Str × Addr)} (k:Nat) (js:List Nat) (hi:PI X tg iter wi)
    (hg:∀ C s H fp,PG (cxC X N s H (compEnvC scope cl C X.env) fp) tg g) (he:∀ C s H fp,PE (cxC X N s H (compEnvC scope cl C X.env) fp) elt te) (hcalm:X.calm = true)
    (hclos:closureFor scope X.env = pure cl) (hkind:scope.kind = .function) (hcell:∀ y ∈ scope.names,y.2 ≠ .cell) (hnames:∀ y ∈ scope.names,y.2 = .local→scope.names.lookup y.1 = some .local)
    (hcl:∀ y c,cl.lookup y = some c→X.env.cells.lookup y = some c) (hhas:∀ y,((relabel scope X.env).names.lookup y = some .cell ∨ (relabel scope X.env).names.lookup y = some .free)→∃ c,cl.lookup y = some c)
    (hlen:N.length = k + js.length) (hcap:∀ i j,js[i]? = some j→∃ y,N[k + i]? = some y∧Cap X (relabel scope X.env) cl j y)
    (hs:∀ x,foldedSetIterable iter X.env x = pure x) (hN:X.N.Nodup) (hi':X.N[i]? = some y) (hy:X.env.scope.names.lookup y = some .local) (hsw:swapsWith (.ListComp elt [⟨tg,iter,[],0⟩] scope pos) (some (.Name y py)) spos.line X.env = pure true) :
    PS X (.Assign [.Name y py] (.ListComp elt [⟨tg,iter,[],0⟩] scope pos) spos) (tAsg (dComp wi g te k js) (gName i)):=by
  intro pins s σ H D I h
  rw [exec_Assign_Name_used _ _ _ _ hsw]
  refine wpAny_bind (wpAny_standAt (wpAny_bind ?_))
  show wpAny _ X.A (do let _ ← comprehension (.ListComp elt [⟨tg,iter,[],0⟩] scope pos) scope X.env _ (newList []) false (eval iter X.env) (some (assign (.Name y py) X.env))) _ _ s
  refine wpAny_bind (wpAny_mono (comp_core k js hi hg he hcalm hclos hkind hcell hnames hcl hhas hlen hcap hs (use:=some (assign (.Name y py) X.env)) (Qv:=fun _ s'=>SP X pins D .next s') I h fun s6 H5 D' C m I6 n6 z1 z2 z3 z4 z5 q=>?_)
    (fun _ s' hq=>wpAny_pure (wpAny_pure hq)) fun _ _ e=>e)
  show wpAny _ X.A (assign (.Name y py) X.env (.ref D')) _ _ _
  refine wpAny_assign_Name (store_ok2 I6 hN hi' (.inl hy) (v:=.ref D') rfl (fun s8 I8 ⟨a,sb,ha⟩=>?_) (.inr hy))
  have na : C ≠ a := by
    rcases ha with rfl | ha
    · exact z3
    · exact Ne.symm (z4 _ _ ha)
  exact ⟨m,n6.sameBut sb na,fun h9 sb9=>⟨_,H5,I8.turned (t':=s8.toks) (fun b o hb e=>(sb9.2 b hb).trans e) z1 z3 (.inr z2) z4 z5,q⟩⟩
def CapL (X:Cx) (sc:Scope) (cl:List (Str × Addr)):List Str→List Nat→Prop
  | y :: ys, j :: js => Cap X sc cl j y ∧ CapL X sc cl ys js
  | [], [] => True
  | _, _ => False
theorem CapL.len {sc:Scope} {cl:List (Str × Addr)}:∀ {ys:List Str} {js:List Nat},CapL X sc cl ys js→ys.length = js.length
  | [], [], _ => rfl
  | _ :: _, _ :: _, h => congrArg (· + 1) (CapL.len h.2)
  | [], _ :: _, h => h.elim
  | _ :: _, [], h => h.elim
theorem CapL.at {sc:Scope} {cl:List (Str × Addr)}:∀ {ys:List Str} {js:List Nat},CapL X sc cl ys js→∀ (i j:Nat),js[i]? = some j→∃ y,ys[i]? = some y∧Cap X sc cl j y
  | [], [], _, i, j, e => by simp at e
  | y :: ys, j :: js, h, 0, j', e => by
    cases e
    exact ⟨y, rfl, h.1⟩
  | y :: ys,j :: js,h,i + 1,j',e=>CapL.at h.2 i j' (by simpa using e)
  | [], _ :: _, h, _, _, _ => h.elim
  | _ :: _, [], h, _, _, _ => h.elim
def CellL (cells:List (Str × Addr)):List (Str × Addr)→Prop
  | [] => True
  | (y, c) :: r => cells.lookup y = some c ∧ CellL cells r
theorem CellL.at {cells:List (Str × Addr)}:∀ {cl:List (Str × Addr)},CellL cells cl→∀ y c,cl.lookup y = some c→cells.lookup y = some c
  | [], _, y, c, e => by simp at e
  | (z, d) :: r, h, y, c, e => by
    rw [List.lookup_cons] at e
    cases q : y == z with
    | true =>
      rw [q] at e
      cases e
      rw [eq_of_beq q]
      exact h.1
    | false =>
      rw [q] at e
      exact CellL.at h.2 y c e
theorem lookup_has {y:Str}:∀ {cl:List (Str × Addr)},(cl.map (·.1)).contains y = true→∃ c,cl.lookup y = some c
  | [], h => by simp at h
  | (z, d) :: r, h => by
    rw [List.lookup_cons]
    cases q : y == z with
    | true => exact ⟨d, rfl⟩
    | false =>
      refine lookup_has (cl := r) ?_
      rw [List.map_cons,List.contains_cons,q,Bool.false_or] at h
      exact h
theorem relabel_has {env:Env} {y:Str}:∀ {names:List (Str × NameKind)} {k:NameKind},(names.map fun (n,k)=>if (k == NameKind.free && env.scope.kind == .function && env.kindOf n == some .cell) then (n,NameKind.cell) else (n,k)).lookup y = some k →
    (k = .cell ∨ k = .free)→∃ z ∈ names,z.1 = y∧(z.2 = .free ∨ z.2 = .cell)
  | [], _, h, _ => by simp at h
  | (n, kd) :: r, k, h, hk => by
    rw [List.map_cons] at h
    by_cases hc:(kd == NameKind.free && env.scope.kind == .function && env.kindOf n == some .cell) = true
    · rw [show (match (n,kd) with | (n,k)=>if (k == NameKind.free && env.scope.kind == .function && env.kindOf n == some .cell) = true then (n,NameKind.cell) else (n,k)) = (n,NameKind.cell) from if_pos hc,List.lookup_cons] at h
      cases q : y == n with
      | true =>
        rw [Bool.and_eq_true, Bool.and_eq_true] at hc
        exact ⟨(n,kd),List.mem_cons_self,(eq_of_beq q).symm,.inl (eq_of_beq hc.1.1)⟩
      | false =>
        rw [q] at h
        obtain ⟨z, hz, r1⟩ := relabel_has (names := r) h hk
        exact ⟨z, List.mem_cons_of_mem _ hz, r1⟩
    · rw [show (match (n,kd) with | (n,k)=>if (k == NameKind.free && env.scope.kind == .function && env.kindOf n == some .cell) = true then (n,NameKind.cell) else (n,k)) = (n,kd) from if_neg hc,List.lookup_cons] at h
      cases q : y == n with
      | true =>
        rw [q] at h
        cases h
        exact ⟨(n,kd),List.mem_cons_self,(eq_of_beq q).symm,hk.symm⟩
      | false =>
        rw [q] at h
        obtain ⟨z, hz, r1⟩ := relabel_has (names := r) h hk
        exact ⟨z, List.mem_cons_of_mem _ hz, r1⟩
theorem e_compN {elt iter tg:Expr} {scope:Scope} {pos:Pos} {wi:TI} {te:TE} {g:TG} {cl:List (Str × Addr)} (own ys:List Str) (js:List Nat) (hclos:closureFor scope X.env = pure cl) (hi:PI X tg iter wi)
    (hg:∀ C s H fp,PG (cxC X (own ++ ys) s H (compEnvC scope cl C X.env) fp) tg g) (he:∀ C s H fp,PE (cxC X (own ++ ys) s H (compEnvC scope cl C X.env) fp) elt te) (hcalm:X.calm = true) (hkind:scope.kind = .function)
    (hcell:(scope.names.all fun y=>y.2 != .cell) = true) (hnames:(scope.names.all fun y=>y.2 != .local || scope.names.lookup y.1 == some .local) = true) (hfr:(scope.names.all fun y=>y.2 != .free || (cl.map (·.1)).contains y.1) = true)
    (hcl:CellL X.env.cells cl) (hcap:CapL X (relabel scope X.env) cl ys js) (hs:∀ x,foldedSetIterable iter X.env x = pure x:=by intro _; rfl) :
    PE X (.ListComp elt [⟨tg,iter,[],0⟩] scope pos) (dComp wi g te own.length js):=by
  rw [List.all_eq_true] at hcell hnames hfr
  have hc:∀ y ∈ scope.names,y.2 ≠ .cell:=fun y hy z=>by
    have := hcell y hy
    rw [z] at this
    cases this
  refine e_comp own.length js hi hg he hcalm hclos hkind hc (fun y hy z=>?_) hcl.at (fun y h=>?_) (by rw [List.length_append,hcap.len]) (fun i j e=>?_) hs
  · have := hnames y hy
    rw [z] at this
    simpa using this
  · obtain ⟨z,hz,rfl,hk⟩:∃ z ∈ scope.names,z.1 = y∧(z.2 = .free ∨ z.2 = .cell):=by
      rcases h with h | h
      · exact relabel_has h (.inl rfl)
      · exact relabel_has h (.inr rfl)
    rcases hk with hk | hk
    · have := hfr z hz
      rw [hk] at this
      exact lookup_has (by simpa using this)
    · exact absurd hk (hc z hz)
  · obtain ⟨y, h1, h2⟩ := hcap.at i j e
    exact ⟨y,by rw [List.getElem?_append_right (Nat.le_add_right _ _),Nat.add_sub_cancel_left]; exact h1,h2⟩
theorem ps_compN {elt iter tg:Expr} {scope:Scope} {pos py spos:Pos} {i:Nat} {y:Str} {wi:TI} {te:TE} {g:TG} {cl:List (Str × Addr)} (own ys:List Str) (js:List Nat) (hclos:closureFor scope X.env = pure cl) (hi:PI X tg iter wi)
    (hg:∀ C s H fp,PG (cxC X (own ++ ys) s H (compEnvC scope cl C X.env) fp) tg g) (he:∀ C s H fp,PE (cxC X (own ++ ys) s H (compEnvC scope cl C X.env) fp) elt te) (hcalm:X.calm = true) (hkind:scope.kind = .function)
    (hcell:(scope.names.all fun y=>y.2 != .cell) = true) (hnames:(scope.names.all fun y=>y.2 != .local || scope.names.lookup y.1 == some .local) = true) (hfr:(scope.names.all fun y=>y.2 != .free || (cl.map (·.1)).contains y.1) = true)
    (hcl:CellL X.env.cells cl) (hcap:CapL X (relabel scope X.env) cl ys js) (hN:X.N.Nodup) (hi':X.N[i]? = some y) (hy:X.env.scope.names.lookup y = some .local) (hs:∀ x,foldedSetIterable iter X.env x = pure x:=by intro _; rfl) (hsw:swapsWith (.ListComp elt [⟨tg,iter,[],0⟩] scope pos) (some (.Name y py)) spos.line X.env = pure true:=by rfl) :
    PS X (.Assign [.Name y py] (.ListComp elt [⟨tg,iter,[],0⟩] scope pos) spos) (tAsg (dComp wi g te own.length js) (gName i)):=by
  rw [List.all_eq_true] at hcell hnames hfr
  have hc:∀ y ∈ scope.names,y.2 ≠ .cell:=fun y hy z=>by
    have := hcell y hy
    rw [z] at this
    cases this
  refine ps_comp0 own.length js hi hg he hcalm hclos hkind hc (fun y hy z=>?_) hcl.at (fun y h=>?_) (by rw [List.length_append,hcap.len]) (fun i j e=>?_) hs hN hi' hy hsw
  · have := hnames y hy
    rw [z] at this
    simpa using this
  · obtain ⟨z,hz,rfl,hk⟩:∃ z ∈ scope.names,z.1 = y∧(z.2 = .free ∨ z.2 = .cell):=by
      rcases h with h | h
      · exact relabel_has h (.inl rfl)
      · exact relabel_has h (.inr rfl)
    rcases hk with hk | hk
    · have := hfr z hz
      rw [hk] at this
      exact lookup_has (by simpa using this)
    · exact absurd hk (hc z hz)
  · obtain ⟨y, h1, h2⟩ := hcap.at i j e
    exact ⟨y,by rw [List.getElem?_append_right (Nat.le_add_right _ _),Nat.add_sub_cancel_left]; exact h1,h2⟩
theorem comp_rng {lo:Int} {n:Nat} {g:TG} {te:TE} {k:Nat} {js:List Nat} {σ:L2.St} {H1:Hp} {Q:VK} (f:Nat→V) (hz:n ≤ 1000)
    (hs:∀ i H2,i < n→Same H1 H2→∀ P:VK,P (f i) H2→g (.int (lo + i)) (List.replicate k none ++ capσ js σ) H2 fun σ2 H3=>σ2.drop k = capσ js σ∧te σ2 H3 P)
    (hq:∀ D H',Same H1 H'→H' D = some (.lst ((List.range n).map f))→Q (.ref D) H') :
    CGoal (Itr lo n) g te k js σ H1 Q := by
  unfold CGoal
  intro D hD
  refine ⟨fun i m H=>m = n - i∧i ≤ n∧H = upd H1 D (.lst ((List.range i).map f)),⟨n,by simp,Nat.zero_le _,rfl⟩,?_⟩
  rintro i m H ⟨rfl, hi, rfl⟩
  by_cases hlt : i < n
  · refine .inr ⟨hlt, fun x H' y => ?_⟩
    obtain ⟨e1, e2⟩ := y
    subst e1 e2
    refine hs i _ hlt (same_upd hD) _ ⟨_,upd_same,?_,n - (i + 1),by omega,rfl,hlt,?_⟩
    · rw [List.length_map, List.length_range]
      exact Nat.lt_of_lt_of_le hlt (Nat.le_trans hz (by decide))
    · rw [upd_upd, List.range_succ, List.map_append]
      rfl
  · have e : i = n := by omega
    subst e
    exact .inl ⟨Nat.le_refl _,hq D _ (same_upd hD) upd_same⟩
end
end Lw
end
section
set_option Elab.async false
set_option linter.all false
set_option maxRecDepth 100000
set_option maxHeartbeats 4000000
namespace Lw
open PySem PySem.Spec PyProof.Rows L2
section
variable {X : Cx} {pos p2 p3 p4 : Pos} {e : Expr} {te : TE}
def dSlS:V→Option Int→Option Int→Hp→VK→Prop:=fun x lo hi H Q=>match x with
  | .str z=>z.length ≤ sizeLine∧Q (.str (Txt.slice z lo hi)) H
  | _ => False
theorem sl_str : SlR X dSlS := by
  intro pins s σ H x v vl vu lo hi sl Q I rx hs pl pu h
  cases x <;> first
    | exact False.elim h
    | (obtain ⟨hz, q⟩ := h
       obtain ⟨t, rfl⟩ := rx
       refine ⟨"str",_,F.slot_str_getitem.lookup,typeIs_str _ _ _,?_⟩
       cases pl <;> cases pu
       · exact wpAny_getItem_str_slice (l:=none) (u:=none) (st:=none) hs rfl (post_val_or_str ⟨Nat.le_trans (Txt.slice_le _ _ _) hz,fun t' k=>⟨.str _,H,I.tok _,⟨_,rfl⟩,q⟩⟩)
       · exact wpAny_getItem_str_slice (l:=none) (u:=some (_,_)) (st:=none) hs rfl (post_val_or_str ⟨Nat.le_trans (Txt.slice_le _ _ _) hz,fun t' k=>⟨.str _,H,I.tok _,⟨_,rfl⟩,q⟩⟩)
       · exact wpAny_getItem_str_slice (l:=some (_,_)) (u:=none) (st:=none) hs rfl (post_val_or_str ⟨Nat.le_trans (Txt.slice_le _ _ _) hz,fun t' k=>⟨.str _,H,I.tok _,⟨_,rfl⟩,q⟩⟩)
       · exact wpAny_getItem_str_slice (l:=some (_,_)) (u:=some (_,_)) (st:=none) hs rfl (post_val_or_str ⟨Nat.le_trans (Txt.slice_le _ _ _) hz,fun t' k=>⟨.str _,H,I.tok _,⟨_,rfl⟩,q⟩⟩))
def dAddS : R2 := fun x y H Q => match x, y with
  | .str i,.str j=>i.length + j.length ≤ sizeLine∧Q (.str (i ++ j)) H
  | _, _ => False
theorem o_addS : OpR X (binaryOp .Add) dAddS := by
  intro pins s σ H x y v u Q I rx ry q
  cases x <;> cases y <;> first
    | exact False.elim q
    | exact op_add_str _ _ _ _ _ _ _ _ _ I rx ry ⟨_,_,rfl,rfl,q.1,q.2⟩
def dIxS : R2 := fun x y H Q => match x, y with
  | .str z,.int i=>∃ c,z.length ≤ sizeLine∧atI z.cps.toList i = some c∧Q (.str ⟨#[c]⟩) H
  | _, _ => False
theorem i_str : IxR X dIxS := by
  intro value slice pins s σ H x y v u Q I rx ry h hs
  cases x <;> cases y <;> first
    | exact False.elim h
    | (obtain ⟨c, h1, h2, q⟩ := h
       exact ix_str value slice pins s σ H _ _ v u Q I rx ry ⟨_,_,c,rfl,rfl,h1,h2,q⟩ hs)
theorem strs_of:∀ {ys:List Str} {us:List Value},Vals (ys.map V.str) us→StrsAre us ys
  | [], _, r => by
    cases r
    exact .nil
  | y :: ys, _, r => by
    cases r with
    | cons r1 r2 =>
      obtain ⟨t, rfl⟩ := r1
      exact .cons y t (strs_of r2)
def dJoin (K:PySem.W.Frag):V→List V→Hp→VK→Prop:=fun x xs H Q=>match x,xs with
  | .str sep,[.ref p]=>∃ ys:List Str,SqL K H p (ys.map V.str)∧(ys.map (·.length)).sum + ys.length * sep.length ≤ 16777216∧Q (.str (Txt.join sep ys)) H
  | _, _ => False
theorem m_join : MtR X "str.join" (dJoin X.K) := by
  intro pins s σ H x xs v us Q I rx rs h
  match x, xs, h with
  | .str sep, [.ref p], ⟨ys, h1, h2, q⟩ =>
    obtain ⟨t, rfl⟩ := rx
    obtain ⟨u, rfl, r1⟩ := vals1 rs
    cases r1
    obtain ⟨its, r, pl, _⟩ := I.list h1
    exact PyProof.Rows.join_list pl.isList (strs_of r) h2 fun t' k=>⟨.str _,H,I.tok _,⟨_,rfl⟩,q⟩
theorem e_join {o:Expr} {to ta:_} {name:Str} {apos cpos:Pos} (ho:PE X o to) (ha:PA X [e] ta) (hbase:attributeBase o "join" X.env (eval o X.env) = eval o X.env:=by rfl)
    (hfew:((backTo cpos (starEach [e] X.env)).all (fun x=>!x.1) && (backToKw cpos (keywordEach [] X.env)).all (fun x=>x.1.isSome) && decide ([e].length + ([]:List Keyword).length + (if ([]:List Keyword).isEmpty then 0 else 1) < 30)) = true:=by rfl)
    (hline:(apos.endLine == cpos.line) = true:=by rfl) (hs:starEach [e] X.env = (false,eval e X.env) :: starEach [] X.env:=by rfl) (hplain:(backTo cpos (starEach [] X.env)).any (·.1) = false:=by rfl) :
    PE X (.Call (.Attribute o "join" apos) [e] [] cpos) (tBM X.K "str" (dJoin X.K) to ta):=pe_bm F.plainAttrs_str F.slot_str_join F.type_str_join m_join ho ha hbase hfew hline hs hplain
end
end Lw
end
section
set_option Elab.async false
set_option linter.all false
set_option maxRecDepth 100000
set_option maxHeartbeats 4000000
namespace Lw
open PySem PySem.Spec PyProof.Rows L2
def co (x : Str) : List Nat := x.cps.toList
theorem co_len (x:Str):(co x).length = x.length:=by simp [co,Str.length]
theorem co_app (x y:Str):co (x ++ y) = co x ++ co y:=by
  show (x.cps ++ y.cps).toList = x.cps.toList ++ y.cps.toList
  rw [Array.toList_append]
theorem co_one (c : Nat) : co ⟨#[c]⟩ = [c] := rfl
theorem len_app (x y:Str):(x ++ y).length = x.length + y.length:=by
  rw [← co_len, co_app, List.length_append, co_len, co_len]
theorem co_join (sep:Str):∀ ys:List Str,co (Txt.join sep ys) = co (Str.join sep ys):=fun ys=>by
  show co (Builtin.Str.glued sep ys) = _
  rw [StrLaws.glued_eq_join]
theorem join0:∀ ys:List Str,co (Txt.join (Str.ofString "") ys) = (ys.map co).flatten:=by
  intro ys
  rw [co_join]
  induction ys with
  | nil => rfl
  | cons x r ih =>
    cases r with
    | nil => simp [Str.join]
    | cons y r =>
      show co (x ++ Str.ofString "" ++ Str.join (Str.ofString "") (y :: r)) = _
      have e:co (Str.ofString "") = []:=by decide +kernel
      rw [co_app, co_app, ih, e, List.append_nil]
      rfl
theorem rng_gen (a b:Nat):sliceRange (a:Int) (b:Int) 1 = (List.range (b - a)).map (fun k=>a + k):=by
  unfold sliceRange
  simp only [show ((1:Int) > 0) = True from by simp,if_true]
  by_cases h : (a : Int) < b
  · have e3:(((b:Int) - a + 1 - 1) / 1).toNat = b - a:=by omega
    simp only [h, if_true, e3]
    refine List.map_congr_left fun k _ => ?_
    omega
  · have : b - a = 0 := by omega
    simp [h, this]
theorem clip_gen (n d:Nat) (i:Int):max (0:Int) (min (if i < 0 then i + (n:Int) else i) (n:Int)) = ((HT.sIx n d (some i):Nat):Int):=by
  show _ = (((if i < 0 then (i + (n:Int)).toNat else min i.toNat n):Nat):Int)
  by_cases h : i < 0
  · simp only [if_pos h]; omega
  · simp only [if_neg h]; omega
theorem idx_gen (lo hi:Option Int) (n:Nat):Builtin.Str.strSliceIndices lo hi 1 n = (List.range (HT.sIx n n hi - HT.sIx n 0 lo)).map (fun k=>HT.sIx n 0 lo + k):=by
  rw [← rng_gen]
  unfold Builtin.Str.strSliceIndices
  simp only [show ((1:Int) > 0) = True from by simp,if_true]
  cases lo with
  | none =>
    cases hi with
    | none => rfl
    | some j =>
      show sliceRange 0 (max (0:Int) (min (if j < 0 then j + (n:Int) else j) (n:Int))) 1 = _
      rw [clip_gen n n j]
      rfl
  | some i =>
    cases hi with
    | none =>
      show sliceRange (max (0:Int) (min (if i < 0 then i + (n:Int) else i) (n:Int))) (n:Int) 1 = _
      rw [clip_gen n 0 i]
      rfl
    | some j =>
      show sliceRange (max (0:Int) (min (if i < 0 then i + (n:Int) else i) (n:Int))) (max (0:Int) (min (if j < 0 then j + (n:Int) else j) (n:Int))) 1 = _
      rw [clip_gen n 0 i, clip_gen n n j]
theorem co_slice (x:Str) (lo hi:Option Int):co (Txt.slice x lo hi) = ((co x).drop (HT.sIx x.length 0 lo)).take (HT.sIx x.length x.length hi - HT.sIx x.length 0 lo):=by
  have ha := HT.sIx_le x.length 0 (Nat.zero_le _) lo
  have hb := HT.sIx_le x.length x.length (Nat.le_refl _) hi
  have hl := co_len x
  unfold Txt.slice
  rw [idx_gen]
  generalize HT.sIx x.length 0 lo = a at *
  generalize HT.sIx x.length x.length hi = b at *
  split
  · rename_i h
    have h2 : b - a = x.length := by simpa using h
    have a0 : a = 0 := by omega
    subst a0
    rw [List.drop_zero, List.take_of_length_le (by omega)]
  · have p := StrLaws.picks (co x) (b - a) a (by omega)
    rw [← p]
    show (List.filterMap _ _).toArray.toList = _
    rw [List.toList_toArray]
    congr 1
    funext k
    show x.cps[k]? = x.cps.toList[k]?
    rw [Array.getElem?_toList]
theorem co_to {x:Str} {j:Nat} (h:j ≤ x.length):co (Txt.slice x none (some (j:Int))) = (co x).take j:=by
  rw [co_slice,HT.sIx_none,HT.sIx_nat,Nat.min_eq_left h,List.drop_zero,Nat.sub_zero]
theorem co_cut {x:Str} {i j:Nat} (h:i ≤ x.length) (h':j ≤ x.length):co (Txt.slice x (some (i:Int)) (some (j:Int))) = ((co x).drop i).take (j - i):=by
  rw [co_slice,HT.sIx_nat,HT.sIx_nat,Nat.min_eq_left h,Nat.min_eq_left h']
def abc : Str := Str.ofString "abcdefghijklmnopqrstuvwxyz"
def lt (n : Int) : Nat := 97 + (n % 26).toNat
structure Nm (x : Str) : Prop where
  len1 : 1 ≤ (co x).length
  len8 : (co x).length ≤ 8
  abc : ∀ c ∈ co x, 97 ≤ c ∧ c < 123
theorem ok_of {x:Str} (h:∀ c ∈ co x,c < 1114112):PyData.strOk x = true:=by
  unfold PyData.strOk
  rw [← Array.all_toList, List.all_eq_true]
  exact fun c hc => decide_eq_true (h c hc)
end Lw
end
section
set_option Elab.async false
set_option linter.all false
set_option maxRecDepth 100000
set_option maxHeartbeats 4000000
set_option autoImplicit false
namespace Lw
open PySem PySem.Spec PyProof.Rows L2
def vB:List Value:=[.type "ValueError",.type "Exception",.type "BaseException",.type "object"]
structure ExcC (K : PySem.W.Frag) (C : Addr) : Prop where
  nw : PySem.W.excIn K C vB "ValueError.__new__" = true
  ga:PySem.W.findIn K (.ref C) "__getattribute__" = some (some (.builtin "BaseException.__getattribute__"))
  gn : PySem.W.findIn K (.ref C) "__getattr__" = some none
  cl:PySem.W.findIn K (.ref C) "__class__" = some (some (.builtin "object.__class__"))
  mo : PySem.W.mroIn K C (.type "object") = some true
  mb : PySem.W.mroIn K C (.type "BaseException") = some true
theorem own_cls {K:PySem.W.Frag} {h:Heap} {mg:Str→Option Value} {x:Str} {C:Addr} {bmB:List Value} {newId:String} (X:K.In h) (b:mg x = some (.ref C)) (q:PySem.W.excIn K C bmB newId = true):OwnCls x C bmB newId mg h:=by
  refine ⟨b, ?_⟩
  unfold PySem.W.excIn at q
  split at q
  · rename_i d0 cd sl lk
    split at q
    · rename_i C' bm a0 a1 a2 a3 n a5 hm hs
      simp only [Bool.and_eq_true,beq_iff_eq,Bool.not_eq_true'] at q
      obtain ⟨⟨⟨⟨⟨e1, e2⟩, hdel⟩, ht⟩, hok⟩, hni⟩ := q
      subst e1 e2
      obtain ⟨nm,bs,mro,ns,qn,hd,sn,sub,ab,col,del⟩:=cd
      dsimp only at hm hdel hok hni
      subst hm hdel
      have e:sl = #[a0,a1,a2,a3,some (.builtin n),a5]:=by
        obtain ⟨l⟩ := sl
        simp only at hs
        rw [hs]
      subst e
      have N0 : h.isNs ns = true := PySem.W.isNs_of_in X hok
      exact ⟨bm,ns,nm,qn,bs,hd,sn,sub,ab,col,d0,a0,a1,a2,a3,a5,_,X _ _ lk,.of_isNs N0,PySem.W.nsMap_none_of_in X hok hni,PySem.W.tail_of_in X ht⟩
    · cases q
  · cases q
def tRaise (E:XK) (cls:Value):TS:=fun _ _ H=>E cls none H
section
variable {P:Program} {w:World} {K:PySem.W.Frag} {mg:Str→Option Value} {base:Heap} {N:List Str} {qual:Str} {scope:Scope} {f:Addr} {cd:Value} {A:Around} {outer:List Env} {s₀:Shared} {H₀:Hp} {E:XK}
theorem ps_raise {x:Str} {C:Addr} {np cpos pos p:Pos} {txt:Str} {j:Nat} (hb:mg x = some (.ref C)) (c:ExcC K C) (hg:Gl (cxOf (CXE P w) P w K mg base N qual scope f cd A outer s₀ H₀ E) x) (hd:(x == ("__debug__":Str)) = false:=by decide) :
    PS (cxOf (CXE P w) P w K mg base N qual scope f cd A outer s₀ H₀ E) (.Raise (some (.Call (.Name x np) [.Constant (.str txt) j p] [] cpos)) none pos) (tRaise E (.ref C)):=by
  intro pins s σ H D I h
  have O := own_cls (h := s.heap) I.kIn hb c.nw
  obtain ⟨tl,ns,nm,q,bs,hdct,sn,sub,ab,col,dd,k0,k1,k2,k3,k5,mN,hC,hN,hni,T⟩:=O.obj
  have FB := PySem.F.excBase_ValueError
  refine wpAny_Raise_call_subT (C:=C) (nm:=nm) (q:=q) (N:=ns) (bs:=bs) (bm:=tl) (hdct:=hdct) (sn:=sn) (sub:=sub) (ab:=ab) (col:=col) (dd:=dd) (k0:=k0) (k1:=k1) (k2:=k2) (k3:=k3) (k5:=k5)
    (mN:=mN) FB (T.hasType FB.hasBase) (I.ok.hd rfl) rfl hni (ld_glob I hg hb ⟨rfl,?_⟩ hd)
  refine Calls.evalArgs_plain ?_
  refine spliced_more (Calls.Constant_str (Calls.spliced_nil ?_))
  exact ⟨rfl,(by show 1 ≤ sizeLine; decide),hC,hN,T,fun h' e hx=>raiseX (I.tok _) hx h⟩
end
section
variable {P:Program} {w:World} {K:PySem.W.Frag} {mg:Str→Option Value} {base:Heap} {N:List Str} {qual:Str} {scope:Scope} {f:Addr} {cd:Value} {A:Around} {outer:List Env} {s₀:Shared} {H₀:Hp} {E:XK}
end
section
variable {prog:Program} {w:World} {A:Around} {E:Value→Shared→Prop} {K:PySem.W.Frag} {x C:Addr}
end
section
variable {X : Cx}
end
section
variable {X:Cx} {pins:List (Addr × Obj)} {σ:L2.St} {H:Hp} {s:Shared}
end
section
variable {X:Cx} {pins:List (Addr × Obj)} {σ:L2.St} {H:Hp} {s:Shared}
end
structure Cat (K : PySem.W.Frag) (D : Addr) : Prop where
  lk:∃ dd cd sl,K.lookup D = some ⟨.type "type",dd,.cls cd,sl⟩
  mb : PySem.W.mroIn K D (.type "BaseException") = some true
section
variable {X:Cx} {pins:List (Addr × Obj)} {σ:L2.St} {H H':Hp} {s s':Shared}
end
end Lw
end
section
set_option Elab.async false
set_option linter.all false
set_option maxRecDepth 100000
set_option maxHeartbeats 4000000
namespace Lw
open PySem PySem.Spec PyProof.Rows L2
section
variable {X:Cx} {a b c:Expr} {ta tb tc:TE} {pos:Pos} {tg:Expr}
def Cst (mg:Str→Option Value) (x:Str) (v:V):Prop:=∃ u,mg x = some u∧RelV v u
theorem g_cst {x:Str} {v:V} (k:Cst X.mg x v) (hg:Gl X x) (hd:(x == ("__debug__":Str)) = false:=by decide):PE X (.Name x pos) (tC v):=by
  obtain ⟨u, h1, h2⟩ := k
  exact pe_glob hg h1 h2 hd
def dChain (r r':R2) (ta tb tc:TE):TE:=fun σ H Q=>ta σ H fun x H1=>tb σ H1 fun y H2=>r x y H2 fun z H3=>match z with
  | .bl k=>Br k (tc σ H3 fun w' H4=>r' y w' H4 Q) (Q (.bl false) H3)
  | _ => False
theorem dChain_eq (r r':R2) (ta tb tc:TE):dChain r r' ta tb tc = tChain r r' ta tb tc:=by
  funext σ H Q
  unfold dChain tChain
  congr 1
  funext x H1
  congr 1
  funext y H2
  congr 1
  funext z H3
  apply propext
  cases z <;> simp [br_eq]
theorem e_chain {op op':CmpOp} {r r':R2} (ho:OpR X (compareOp op) r) (ho':OpR X (compareOp op') r') (ha:PE X a ta) (hb:PE X b tb) (hc:PE X c tc)
    (hm:lastMarks [op,op'] [b,c] = false:=by with_unfolding_all rfl):PE X (.Compare a [op,op'] [b,c] pos) (dChain r r' ta tb tc):=by
  rw [dChain_eq]
  exact pe_chain ho ho' ha hb hc hm
theorem t_chain {op op':CmpOp} {r r':R2} (ho:OpR X (compareOp op) r) (ho':OpR X (compareOp op') r') (ha:PE X a ta) (hb:PE X b tb) (hc:PE X c tc)
    (hm:lastMarks [op,op'] [b,c] = false:=by with_unfolding_all rfl):PT X (.Compare a [op,op'] [b,c] pos) (dTest (dChain r r' ta tb tc)):=by
  rw [dTest_eq, dChain_eq]
  exact pt_chain ho ho' ha hb hc hm
def dAll (K:PySem.W.Frag):List V→Hp→VK→Prop:=fun xs H Q=>match xs with
  | [.ref p]=>∃ bs:List Bool,SqL K H p (bs.map V.bl)∧Q (.bl (bs.all id)) H
  | _ => False
theorem vals_bls:∀ {bs:List Bool} {us:List Value},Vals (bs.map V.bl) us→us = bs.map Value.bool
  | [], _, r => by cases r; rfl
  | d :: ds, _, r => by
    cases r with
    | cons r1 r2=>rw [show _ = Value.bool d from r1,vals_bls r2]; rfl
theorem range_all:∀ bs:List Bool,((List.range bs.length).all fun i=>bs.getD i true) = bs.all id:=by
  intro bs
  rw [Bool.eq_iff_iff, List.all_eq_true, List.all_eq_true]
  constructor
  · intro h b hb
    obtain ⟨i, hi, rfl⟩ := List.getElem_of_mem hb
    have := h i (List.mem_range.mpr hi)
    rw [List.getD_eq_getElem?_getD,List.getElem?_eq_getElem hi] at this
    exact this
  · intro h i hi
    have hi := List.mem_range.mp hi
    rw [List.getD_eq_getElem?_getD,List.getElem?_eq_getElem hi]
    exact h _ (List.getElem_mem hi)
theorem c_all (hc:X.calm = true):CallR X (.builtin "all") (dAll X.K):=by
  intro pins s σ H xs us Q I r h
  match xs, h with
  | [.ref p], ⟨bs, h1, q⟩ =>
    obtain ⟨u, rfl, r1⟩ := vals1 r
    cases (show u = Value.ref p from r1)
    obtain ⟨its, rv, pl, _⟩ := I.list h1
    have e := vals_bls rv
    subst e
    have hh := I.ok.hd hc
    have il := pl.isList
    obtain ⟨ob, eb, rb⟩ := id il
    have ne:p ≠ s.heap.objs.size:=Nat.ne_of_lt (Heap.lt_size eb)
    refine call_all_walk (wpAny_pyIter_list il ?_)
    refine ⟨s.heap.objs.size,_,_,_,_,_,fun i=>bs.getD i true,rfl,Walks.list (A:=X.A.in1) hh s.heap.objs.size p ne (bs.map Value.bool).toArray,⟨⟨_,Heap.get?_push_size _ rfl,rfl,rfl⟩,⟨ob,Heap.get?_push_of_some _ eb,rb⟩⟩,fun i v s2 Q2 E2 hP hQ=>?_,fun h' tk k=>?_⟩
    · have hP:(bs.map Value.bool).toArray[i]? = some v:=hP
      rw [List.getElem?_toArray, List.getElem?_map] at hP
      cases e2 : bs[i]? with
      | none =>
        rw [e2] at hP
        cases hP
      | some d =>
        rw [e2] at hP
        cases hP
        refine wpAny_truthy_bool ?_
        have:bs.getD i true = d:=by rw [List.getD_eq_getElem?_getD,e2]; rfl
        rw [← this]
        exact hQ
    · refine ⟨.bl (bs.all id),H,I.kept (t':=tk) fun b o e=>k b o ?_ (Heap.get?_push_of_some _ e),?_,q⟩
      · intro z
        have z : b = s.heap.objs.size := by simpa using z
        exact Nat.lt_irrefl _ (z ▸ Heap.lt_size e)
      · show Value.bool _ = Value.bool _
        rw [List.size_toArray, List.length_map, range_all]
end
end Lw
end
set_option linter.all false
namespace Lw
open L2
def rq (t b : Int) : Rat := (t : Rat) / (b : Rat)
theorem ic_pos {b:Int} (h:0 < b):(0:Rat) < (b:Rat):=Rat.intCast_pos.mpr h
theorem rq_mul {t b:Int} (h:0 < b):rq t b * (b:Rat) = (t:Rat):=by
  have := ic_pos h
  unfold rq
  grind
theorem rq_eq {t b t' b':Int} (h:0 < b) (h':0 < b'):rq t b = rq t' b' ↔ t * b' = t' * b:=by
  have e1 := rq_mul (t := t) h
  have e2 := rq_mul (t := t') h'
  have p1 := ic_pos h
  have p2 := ic_pos h'
  constructor
  · intro e
    have:((t * b':Int):Rat) = ((t' * b:Int):Rat):=by
      rw [Rat.intCast_mul, Rat.intCast_mul, ← e1, ← e2, e]
      grind
    exact Rat.intCast_inj.mp this
  · intro e
    have e:((t * b':Int):Rat) = ((t' * b:Int):Rat):=congrArg _ e
    rw [Rat.intCast_mul, Rat.intCast_mul, ← e1, ← e2] at e
    generalize rq t b = u at *
    generalize rq t' b' = v at *
    have hc := Rat.mul_pos p1 p2
    have:(u - v) * ((b:Rat) * (b':Rat)) = 0:=by grind
    generalize (b : Rat) * (b' : Rat) = c at *
    clear e e1 e2 p1 p2
    have z : (u - v) * c * c⁻¹ = 0 := by rw [this]; grind
    rw [Rat.mul_assoc, Rat.mul_inv_cancel c (by grind)] at z
    grind
theorem rq_low {t b:Int} (hb:0 < b):rq (lowT t b) (lowB t b) = rq t b:=by
  rw [rq_eq (lowB_pos t hb) hb]
  have m1 := lowT_mul t b
  have m2 := lowB_mul t b
  generalize lowT t b = u at *
  generalize lowB t b = w at *
  generalize (Int.gcd t b : Int) = g at *
  subst m1 m2
  grind
theorem rq_add {t b u c:Int} (hb:0 < b) (hc:0 < c):rq (t * c + u * b) (b * c) = rq t b + rq u c:=by
  have p1 := ic_pos hb
  have p2 := ic_pos hc
  unfold rq
  rw [Rat.intCast_add,Rat.intCast_mul,Rat.intCast_mul,Rat.intCast_mul]
  generalize (t : Rat) = t at *
  generalize (u : Rat) = u at *
  generalize (b : Rat) = b at *
  generalize (c : Rat) = c at *
  grind
end Lw
section
set_option Elab.async false
set_option linter.all false
set_option maxRecDepth 100000
set_option maxHeartbeats 4000000
namespace Lw
open PySem PySem.Spec PyProof.Rows L2
section
variable {X : Cx}
def tCutE (t u:TS):TS:=fun D σ H=>∃ R:L2.St→Hp→Prop,t { D with nx:=R } σ H∧∀ σ' H',R σ' H'→u D σ' H'
theorem ss_cutE {st:Stmt} {r:List Stmt} {t u:TS} (h1:PS X st t) (h2:PSs X r u):PSs X (st :: r) (tCutE t u):=by
  intro pins s σ H D I h
  obtain ⟨R, h⟩ := h
  exact ss_cut R h1 h2 pins s σ H D I h
end
end Lw
end
section
set_option Elab.async false
set_option linter.all false
set_option maxRecDepth 100000
set_option maxHeartbeats 4000000
set_option autoImplicit false
namespace Lw
open PySem PySem.Spec PyProof.Rows L2
section
variable {X : Cx} {pos : Pos}
def dListN (K:PySem.W.Frag):List V→Hp→VK→Prop:=fun xs H Q=>match xs with
  | [.ref p]=>∃ ys,(SqL K H p ys ∨ SqT K H p ys)∧∀ l,H l = none→Q (.ref l) (upd H l (.lst ys))
  | _ => False
theorem c_listN : CallR X (.type "list") (dListN X.K) := by
  intro pins s σ H xs us Q I r h
  match xs, h with
  | [.ref p],⟨ys,h1,q⟩=>exact call_list_of pins s σ H _ us Q I r ⟨p,ys,rfl,h1,q⟩
end
end Lw
end
section
set_option Elab.async false
set_option linter.all false
set_option maxRecDepth 100000
set_option maxHeartbeats 4000000
set_option autoImplicit false
namespace Lw
open PySem PySem.Spec PyProof.Rows L2
section
variable {X : Cx} {pos : Pos}
structure TupD (K:PySem.W.Frag) (a:Addr) (xs:List V):Prop where
  sq : ∀ H, SqT K H a xs
  ty:∃ o,K.lookup a = some o∧o.cls = .type "tuple"∧o.dict = none
end
section
open PySem.AutoSeq1 (wpAny_loadPart')
open PySem.MeetsSeq PySem.MeetsSeq2 PySem.MeetsSeq3 PySem.SeqRoads2 PySem.SeqAt
section
variable {X : Cx} {pos : Pos}
theorem vals_get:∀ {xs:List V} {us:List Value} {i:Nat} {u:Value},Vals xs us→us[i]? = some u→∃ x,xs[i]? = some x∧RelV x u
  | _, _, i, _, .nil, h => by simp at h
  | x :: _, _ :: _, 0, u, .cons r _, h => by
    simp at h
    subst h
    exact ⟨x, rfl, r⟩
  | _ :: _, _ :: _, i + 1, u, .cons _ t, h => by
    simp at h
    obtain ⟨x, h1, h2⟩ := vals_get t h
    exact ⟨x, by simpa using h1, h2⟩
end
end
end Lw
end
section
set_option Elab.async false
set_option linter.all false
set_option maxRecDepth 100000
set_option maxHeartbeats 4000000
set_option autoImplicit false
namespace Lw
open PySem PySem.Spec PyProof.Rows L2
section
variable {X : Cx} {pos p2 p3 p4 : Pos}
end
end Lw
end
section
set_option Elab.async false
set_option linter.all false
set_option maxRecDepth 100000
set_option maxHeartbeats 4000000
namespace Lw
open PySem PySem.Spec PyProof.Rows L2
section
variable {prog:Program} {w:World} {A:Around} {R:Result→Shared→Prop} {s:Shared}
theorem turn_eqI (elt tg iter cd:Expr) (scope:Scope) (pos:Pos) (it acc:Value) (env:Env) :
    compTurn (.ListComp elt [⟨tg,iter,[cd],0⟩] scope pos) 0 it acc env = (standAt iter.pos >>= fun _=>pyNext it >>= fun r=>match r with
      | none => pure (.done .next)
      | some v=>letOwnedTupleGo tg it v >>= fun _=>assign tg env v >>= fun _=>isTrue cd env (eval cd env) >>= fun b=>if b = true then ((eval elt env >>= fun x=>call (.builtin "list.append") [acc,x] >>= fun _=>pure ()) >>= fun _=>again (.compLoop (.ListComp elt [⟨tg,iter,[cd],0⟩] scope pos) 0 it acc env)) else again (.compLoop (.ListComp elt [⟨tg,iter,[cd],0⟩] scope pos) 0 it acc env)):=by
  unfold compTurn
  simp only [List.getElem?_cons_zero,bne_self_eq_false,Bool.false_eq_true,if_false,List.forIn_cons,List.forIn_nil,if_true]
  congr 1
  funext _
  congr 1
  funext r
  cases r with
  | none => rfl
  | some v =>
    simp only [bind_assoc, pure_bind]
    rfl
theorem loop_compI {elt tg iter cd:Expr} {scope:Scope} {pos:Pos} {it acc:Value} {env:Env} (I:Nat→Shared→Prop)
    (turn:∀ n s,I n s→wpAny (model prog w) A (pyNext it) (fun r s1=>(r = none∧R (.ok .next) s1) ∨ ∃ v,r = some v∧wpAny (model prog w) A (letOwnedTupleGo tg it v) (fun _ s2=>wpAny (model prog w) A (assign tg env v) (fun _ s3 =>
      wpAny (model prog w) A (isTrue cd env (eval cd env)) (fun b s3=>Br b (wpAny (model prog w) A (eval elt env) (fun x s4=>wpAny (model prog w) A (call (.builtin "list.append") [acc,x]) (fun _ s5=>∃ m,m < n∧I m s5) (fun _ _=>False) s4) (fun _ _=>False) s3) (∃ m,m < n∧I m s3)) (fun _ _=>False) s3) (fun _ _=>False) s2) (fun _ _=>False) s1) (fun _ _=>False) s)
    (n:Nat) (h:I n s):codeAny (model prog w) A (.compLoop (.ListComp elt [⟨tg,iter,[cd],0⟩] scope pos) 0 it acc env) R s:=by
  refine codeAny_loop rfl I (fun n s hI => ?_) n h
  show wpAny _ _ ((compTurn (.ListComp elt [⟨tg,iter,[cd],0⟩] scope pos) 0 it acc env).onRaise (fun x=>do noteFrame x env; theTreesLotGoes x)) _ _ s
  refine wpAny_noted ?_
  rw [turn_eqI]
  refine wpAny_bind (wpAny_standAt (wpAny_bind (wpAny_mono (turn n s hI) (fun r s1 h1=>?_) fun _ _ z=>z.elim)))
  rcases h1 with ⟨rfl, h1⟩ | ⟨v, rfl, h1⟩
  · exact wpAny_pure h1
  · refine wpAny_bind (wpAny_mono h1 (fun _ s2 h2=>?_) fun _ _ z=>z.elim)
    refine wpAny_bind (wpAny_mono h2 (fun _ s3 h3=>?_) fun _ _ z=>z.elim)
    refine wpAny_bind (wpAny_mono h3 (fun b s3 h3=>?_) fun _ _ z=>z.elim)
    cases b with
    | true =>
      refine wpAny_bind (wpAny_bind (wpAny_mono (h3.1 rfl) (fun x s4 h4=>?_) fun _ _ z=>z.elim))
      refine wpAny_bind (wpAny_mono h4 (fun _ s5 h5=>?_) fun _ _ z=>z.elim)
      exact wpAny_pure (wpAny_pure ⟨rfl, h5⟩)
    | false => exact wpAny_pure ⟨rfl, h3.2 rfl⟩
end
@[irreducible] def CGoalI (J:It) (g:TG) (tc:TT) (te:TE) (k:Nat) (js:List Nat) (σ:L2.St) (H1:Hp) (Q:VK):Prop:=∀ D,H1 D = none→∃ W:Nat→Nat→Hp→Prop,(∃ m,W 0 m (upd H1 D (.lst [])))∧∀ i m H,W i m H →
  (J.stop i H∧Q (.ref D) H) ∨ (J.go i H∧∀ x H',J.yld i H x H'→g x (List.replicate k none ++ capσ js σ) H' fun σ2 H2=>σ2.drop k = capσ js σ∧tc σ2 H2 fun b H3=>Br b (te σ2 H3 fun v H4=>∃ xs,H4 D = some (.lst xs)∧xs.length < sizeLine∧∃ m',m' < m∧W (i + 1) m' (upd H4 D (.lst (xs ++ [v])))) (∃ m',m' < m∧W (i + 1) m' H3))
def dCompI (wi:TI) (g:TG) (tc:TT) (te:TE) (k:Nat) (js:List Nat):TE:=fun σ H Q=>wi σ H fun J H1=>CGoalI J g tc te k js σ H1 Q
section
variable {X : Cx}
theorem comp_coreI {elt iter tg cd:Expr} {scope:Scope} {pos:Pos} {wi:TI} {te:TE} {tc:TT} {g:TG} {N:List Str} {cl:List (Str × Addr)} (k:Nat) (js:List Nat) (hi:PI X tg iter wi)
    (hg:∀ C s H fp,PG (cxC X N s H (compEnvC scope cl C X.env) fp) tg g) (hd:∀ C s H fp,PT (cxC X N s H (compEnvC scope cl C X.env) fp) cd tc) (he:∀ C s H fp,PE (cxC X N s H (compEnvC scope cl C X.env) fp) elt te) (hcalm:X.calm = true)
    (hclos:closureFor scope X.env = pure cl) (hkind:scope.kind = .function) (hcell:∀ y ∈ scope.names,y.2 ≠ .cell) (hnames:∀ y ∈ scope.names,y.2 = .local→scope.names.lookup y.1 = some .local)
    (hcl:∀ y c,cl.lookup y = some c→X.env.cells.lookup y = some c) (hhas:∀ y,((relabel scope X.env).names.lookup y = some .cell ∨ (relabel scope X.env).names.lookup y = some .free)→∃ c,cl.lookup y = some c)
    (hlen:N.length = k + js.length) (hcap:∀ i j,js[i]? = some j→∃ y,N[k + i]? = some y∧Cap X (relabel scope X.env) cl j y)
    (hs:∀ x,foldedSetIterable iter X.env x = pure x) {pins:List (Addr × Obj)} {s:Shared} {σ:L2.St} {H:Hp} {Q:VK} (I:Inv X pins σ H s) (h:dCompI wi g tc te k js σ H Q) {cpos:Pos} {use:Option (Value→Sem Unit)} {Qv:Value→Shared→Prop}
    (fin:∀ (s6:Shared) (H5:Hp) (D C:Addr) (m:Str→Option Value),Inv X pins σ H5 s6→s6.heap.Ns C m→H5 C = none→X.s₀.heap.objs.size ≤ C→C ≠ X.env.locals→(∀ x c,X.env.cells.lookup x = some c→c ≠ C)→(∀ p ∈ X.pn ++ pins,p.1 ≠ C)→Q (.ref D) H5 →
      compPost (model X.prog X.w) X.A X.xe use Qv (.ref D) C (.ok .next) s6) :
    wpAny (model X.prog X.w) X.A (comprehension (.ListComp elt [⟨tg,iter,[cd],0⟩] scope pos) scope X.env cpos (newList []) false (eval iter X.env) use) Qv X.xe s:=by
  refine wpAny_comprehension_free (use:=use) rfl hs hclos hkind hnames (thn (hi pins s σ H _ I h) fun v s1 h1=>thn h1 fun itv s2 h2=>?_)
  obtain ⟨it, fp, tn, J, H2, rfl, I2, T, st2, f2, h2⟩ := h2
  refine wpAny_newObj_type ?_
  have hD:H2 s2.heap.objs.size = none:=I2.hok.fresh (Nat.le_refl _)
  unfold CGoalI at h2
  obtain ⟨W, ⟨m0, w0⟩, turn⟩ := h2 _ hD
  have I3:Inv X pins σ (upd H2 s2.heap.objs.size (.lst [])) { s2 with heap:=s2.heap.push { cls:=.type "list",dict:=none,data:=.seq ([]:List Value).toArray } } :=
    I2.laid (t':=s2.toks) (fun b u e=>Heap.get?_push_of_some _ e) (Nat.le_refl _) ⟨Nat.zero_le _,[],0,.nil,Heap.get?_push_size _ rfl⟩
  have hlt:∀ b ∈ fp,b < s2.heap.objs.size:=fun b hb=>by
    obtain ⟨o, e, _⟩ := T.obj _ _ st2 b hb
    exact Heap.lt_size e
  have f3:∀ b ∈ fp,FpOk X pins (upd H2 s2.heap.objs.size (.lst [])) b:=fun b hb=>⟨by rw [upd_ne (Nat.ne_of_lt (hlt b hb))]; exact (f2 b hb).1,(f2 b hb).2⟩
  have st3:tn 0 (s2.heap.push { cls:=.type "list",dict:=none,data:=.seq ([]:List Value).toArray }):=T.keep _ _ _ st2 fun b hb o e=>Heap.get?_push_of_some _ e
  have hlt3:∀ b ∈ fp,b < (s2.heap.push { cls:=.type "list",dict:=none,data:=.seq ([]:List Value).toArray }).objs.size:=fun b hb=>Nat.lt_of_lt_of_le (hlt b hb) (by rw [Heap.size_push]; exact Nat.le_succ _)
  generalize hs3:({ s2 with heap:=s2.heap.push { cls:=.type "list",dict:=none,data:=.seq ([]:List Value).toArray } }:Shared) = s3 at I3
  have eh:s3.heap = s2.heap.push { cls:=.type "list",dict:=none,data:=.seq ([]:List Value).toArray }:=by rw [← hs3]
  rw [← eh] at st3 hlt3
  generalize hDD : s2.heap.objs.size = D at *
  generalize hH3 : upd H2 D (.lst []) = H3 at *
  clear hs3 eh
  refine wpAny_newFunctionEnv (s:=s3) hcell (by intro y hy; simp at hy) (fun h4 n4 sb4=>?_) hkind
  have Ok:=comp_ok (N:=N) (C:=s3.heap.objs.size) I3 hkind (Nat.le_refl _) hcl hhas fun b hb=>⟨f3 b hb,hlt3 b hb⟩
  show codeAny _ _ (.compStart (.ListComp elt [⟨tg,iter,[cd],0⟩] scope pos) 0 (.ref it) (.ref D) (compEnvC scope cl s3.heap.objs.size X.env)) _ _
  generalize hC : s3.heap.objs.size = C at *
  have old:∀ b o,s3.heap.get? b = some o→h4.get? b = some o:=fun b o e=>sb4.extBut b o (by rw [← hC]; exact Nat.ne_of_lt (Heap.lt_size e)) (Heap.get?_push_of_some _ e)
  have fresh:H3 C = none:=I3.hok.fresh (by rw [hC]; exact Nat.le_refl _)
  have hcapl:∀ {i:Nat} {x:Str} {v:V},N[i]? = some x→(List.replicate k none ++ capσ js σ)[i]? = some (some v)→∃ u,L2.RelV v u∧Look (compEnvC scope cl C X.env) h4 (fun _=>none) x u:=by
    intro i x v e1 e2
    by_cases hik : i < k
    · rw [List.getElem?_append_left (by simpa using hik)] at e2
      rw [List.getElem?_replicate] at e2
      simp [hik] at e2
    · rw [List.getElem?_append_right (by simpa using Nat.le_of_not_lt hik),List.length_replicate] at e2
      unfold capσ at e2
      rw [List.getElem?_map] at e2
      cases ej : js[i - k]? with
      | none =>
        rw [ej] at e2
        cases e2
      | some j =>
        rw [ej] at e2
        have e2:(σ[j]?).join = some v:=Option.some.inj e2
        obtain ⟨y, hy, cp⟩ := hcap _ _ ej
        rw [show k + (i - k) = i by omega, e1] at hy
        cases hy
        obtain ⟨m, _, hl⟩ := I3.loc
        have e3 : σ[j]? = some (some v) := by
          cases q : σ[j]? with
          | none =>
            rw [q] at e2
            cases e2
          | some o =>
            rw [q] at e2
            have : o = some v := e2
            rw [this]
        obtain ⟨u,ru,lk⟩:=hl j x v cp.nm e3 (.inr (.inl cp.ko))
        refine ⟨u, ru, ?_⟩
        rcases lk with ⟨z, _⟩ | ⟨_, c, hc, z⟩
        · rw [cp.ko] at z
          cases z
        · refine .inr ⟨.inl cp.ki,c,by rw [← hc]; exact cp.cl,?_⟩
          obtain ⟨o, e, d⟩ := z
          exact ⟨o, old _ _ e, d⟩
  have I4:Inv (cxC X N s3 H3 (compEnvC scope cl C X.env) fp) [] (List.replicate k none ++ capσ js σ) H3 { s3 with heap:=h4,toks:=s3.toks + ([]:List (Str × Value)).length }:=by
    refine ⟨Ok,rfl,I3.bare,Un.kept old,⟨_,n4,fun i x v e1 e2 e3=>?_⟩,fun x c e=>?_,fresh,fun x c e=>I3.freeC x c (hcl x c e),fun p hp=>absurd hp (by simp),I3.hok.kept old,?_⟩
    · obtain ⟨u, ru, lk⟩ := hcapl e1 e2
      refine ⟨u, ru, ?_⟩
      rcases lk with ⟨z, q⟩ | q
      · cases q
      · exact .inr q
    · obtain ⟨v, o, e1, d⟩ := I3.cell x c (hcl x c e)
      exact ⟨v, o, old _ _ e1, d⟩
    · simp [capσ, hlen]
  have fp4:∀ {H':Hp},(∀ b ∈ fp,H' b = none)→∀ b ∈ fp,FpOk (cxC X N s3 H3 (compEnvC scope cl C X.env) fp) [] H' b:=fun hn b hb =>
    ⟨hn b hb,(Ok.exf b hb).1,Ok.exfs b hb,.inl hb,fun x c e=>(Ok.exf b hb).2 x c e,fun p hp=>absurd hp (by simp)⟩
  have st4:tn 0 h4:=T.keep _ _ _ st3 fun b hb o e=>old b o e
  have run:∀ s4:Shared,s4 = { s3 with heap:=h4,toks:=s3.toks + ([]:List (Str × Value)).length } →
      codeAny (model X.prog X.w) X.A (.compLoop (.ListComp elt [⟨tg,iter,[cd],0⟩] scope pos) 0 (.ref it) (.ref D) (compEnvC scope cl C X.env)) (compPost (model X.prog X.w) X.A X.xe use Qv (.ref D) C) s4:=by
    rintro s4 rfl
    refine loop_compI (fun n s'=>∃ i H' σ',Inv (cxC X N s3 H3 (compEnvC scope cl C X.env) fp) [] σ' H' s'∧(∀ j:Nat,∀ v,(List.replicate k none ++ capσ js σ)[j]? = some (some v)→σ'[j]? = some (some v))∧tn i s'.heap∧(∀ b ∈ fp,H' b = none)∧W i n H') ?_ m0
      ⟨0,H3,_,I4,fun _ _ z=>z,st4,fun b hb=>(f3 b hb).1,w0⟩
    rintro n s5 ⟨i, H5, σ5, I5, cap5, st5, fr5, w5⟩
    have I5':=I5.weak (σ':=List.replicate k none ++ capσ js σ) (by rw [I5.len]; simp [capσ,hlen]) cap5
    rcases turn i n H5 w5 with ⟨stop, q⟩ | ⟨go, step⟩
    · refine thn (T.done (cxC X N s3 H3 (compEnvC scope cl C X.env) fp) rfl rfl rfl hcalm i [] s5 σ5 H5 _ I5 (fp4 fr5) st5 stop) fun r s6 ⟨hr,I6⟩=>.inl ⟨hr,?_⟩
      obtain ⟨m6, n6, _⟩ := I6.loc
      have hCf : H5 C = none := I6.free
      have u6 := I6.base
      have uC:Un (frs X.stack) fp H3 H5 s3.heap s6.heap:=⟨u6.keep,u6.slot,u6.free,u6.there,u6.tups,u6.frzs,u6.tbls⟩
      have I7:Inv X pins σ H5 s6:=I3.call' (s':=s6) I6.os uC I6.hok I6.bare fun b hb=>⟨(f3 b hb).2.2.2.1,(f3 b hb).2.1,(f3 b hb).2.2.2.2.1,(f3 b hb).2.2.2.2.2⟩
      have lt3:∀ b o,s3.heap.get? b = some o→b ≠ C:=fun b o e=>by rw [← hC]; exact Nat.ne_of_lt (Heap.lt_size e)
      refine fin s6 H5 D C m6 I7 n6 hCf (by rw [← hC]; exact I3.sz) (by rw [← hC]; exact Nat.ne_of_gt I3.lt) (fun x c e=>?_) (fun p hp=>lt3 p.1 p.2 (I3.pin p hp).1) q
      obtain ⟨v, o, e1, _⟩ := I3.cell x c e
      exact lt3 c o e1
    · refine thn (T.item (cxC X N s3 H3 (compEnvC scope cl C X.env) fp) rfl rfl rfl hcalm i [] s5 _ H5 _ I5' (fp4 fr5) st5 go) fun r s6 ⟨u,hr,h6⟩=>.inr ⟨u,hr,?_⟩
      refine thn h6 fun _ s7 ⟨x,H7,I7,r7,y7,st7,fr7⟩=>?_
      have I7' := I7.pinned (fp4 fr7) (T.obj _ _ st7)
      refine thn (hg C s3 H3 fp _ s7 _ H7 x u _ I7' r7 (step x H7 y7)) fun _ s8 ⟨σ8,H8,I8,d8,q8⟩=>?_
      have capk:∀ (j:Nat) v,(List.replicate k none ++ capσ js σ)[j]? = some (some v)→σ8[j]? = some (some v):=fun j v e=>by
        by_cases hjk : j < k
        · rw [List.getElem?_append_left (by simpa using hjk),List.getElem?_replicate] at e
          simp [hjk] at e
        · rw [List.getElem?_append_right (by simpa using Nat.le_of_not_lt hjk),List.length_replicate,← d8,List.getElem?_drop] at e
          rw [show k + (j - k) = j by omega] at e
          exact e
      refine thn (hd C s3 H3 fp _ s8 σ8 H8 _ I8 q8) fun b s8' ⟨H8',I8',q8'⟩=>⟨fun hb=>?_,fun hb=>?_⟩
      · refine thn (he C s3 H3 fp _ s8' σ8 H8' _ I8' (q8'.1 hb)) fun vv s9 ⟨vx,H9,I9,r9,xs,hx9,hz9,m',hm',w9⟩=>?_
        obtain ⟨z9,its,n9,rl,e9⟩:=(show ObjOk X.prog X.w H9 s9.heap D (.lst xs) from I9.hok D _ hx9)
        have app:=mt_append (X:=cxC X N s3 H3 (compEnvC scope cl C X.env) fp) _ s9 σ8 H9 (.ref D) [vx] (.ref D) [vv] (fun _ H'=>H' = upd H9 D (.lst (xs ++ [vx]))) I9 rfl (.cons r9 .nil) ⟨D,xs,vx,rfl,rfl,hx9,hz9,rfl⟩
        refine thn app fun _ s10 ⟨_, H10, I10, _, e10⟩ => ?_
        subst e10
        refine ⟨m',hm',i + 1,_,σ8,I10.unpinned (pins:=[]),capk,T.keep _ _ _ st7 fun b hb o e=>(I10.pin (b,o) (List.mem_append_right _ (List.mem_append_right _ (mem_pinsAt hb e)))).1,fun b hb=>?_,w9⟩
        obtain ⟨o, e, d⟩ := T.obj _ _ st7 b hb
        exact (I10.pin (b,o) (List.mem_append_right _ (List.mem_append_right _ (mem_pinsAt hb e)))).2.1
      · obtain ⟨m', hm', w9⟩ := q8'.2 hb
        refine ⟨m',hm',i + 1,_,σ8,I8'.unpinned (pins:=[]),capk,T.keep _ _ _ st7 fun b hb o e=>(I8'.pin (b,o) (List.mem_append_right _ (List.mem_append_right _ (mem_pinsAt hb e)))).1,fun b hb=>?_,w9⟩
        obtain ⟨o, e, d⟩ := T.obj _ _ st7 b hb
        exact (I8'.pin (b,o) (List.mem_append_right _ (List.mem_append_right _ (mem_pinsAt hb e)))).2.1
  exact codeAny_compStart_list (run _ rfl) (T.self X.A 0 _ _ _ st4 (run _ rfl))
theorem e_compI {elt iter tg cd:Expr} {scope:Scope} {pos:Pos} {wi:TI} {te:TE} {tc:TT} {g:TG} {N:List Str} {cl:List (Str × Addr)} (k:Nat) (js:List Nat) (hi:PI X tg iter wi)
    (hg:∀ C s H fp,PG (cxC X N s H (compEnvC scope cl C X.env) fp) tg g) (hd:∀ C s H fp,PT (cxC X N s H (compEnvC scope cl C X.env) fp) cd tc) (he:∀ C s H fp,PE (cxC X N s H (compEnvC scope cl C X.env) fp) elt te) (hcalm:X.calm = true)
    (hclos:closureFor scope X.env = pure cl) (hkind:scope.kind = .function) (hcell:∀ y ∈ scope.names,y.2 ≠ .cell) (hnames:∀ y ∈ scope.names,y.2 = .local→scope.names.lookup y.1 = some .local)
    (hcl:∀ y c,cl.lookup y = some c→X.env.cells.lookup y = some c) (hhas:∀ y,((relabel scope X.env).names.lookup y = some .cell ∨ (relabel scope X.env).names.lookup y = some .free)→∃ c,cl.lookup y = some c)
    (hlen:N.length = k + js.length) (hcap:∀ i j,js[i]? = some j→∃ y,N[k + i]? = some y∧Cap X (relabel scope X.env) cl j y)
    (hs:∀ x,foldedSetIterable iter X.env x = pure x:=by intro _; rfl):PE X (.ListComp elt [⟨tg,iter,[cd],0⟩] scope pos) (dCompI wi g tc te k js):=by
  intro pins s σ H Q I h
  rw [eval_ListComp]
  refine comp_coreI k js hi hg hd he hcalm hclos hkind hcell hnames hcl hhas hlen hcap hs I h fun s6 H5 D C m I6 n6 z1 z2 z3 z4 z5 q=>⟨m,n6,fun h7 sb7=>⟨.ref D,H5,?_,rfl,q⟩⟩
  exact I6.turned (t':=s6.toks) (fun b o hb e=>(sb7.2 b hb).trans e) z1 z3.symm.symm (.inr z2) z4 z5
theorem ps_comp0I {elt iter tg cd:Expr} {scope:Scope} {pos py spos:Pos} {i:Nat} {y:Str} {wi:TI} {te:TE} {tc:TT} {g:TG} {N:List Str} {cl:List (Str × Addr)} (k:Nat) (js:List Nat) (hi:PI X tg iter wi)
    (hg:∀ C s H fp,PG (cxC X N s H (compEnvC scope cl C X.env) fp) tg g) (hd:∀ C s H fp,PT (cxC X N s H (compEnvC scope cl C X.env) fp) cd tc) (he:∀ C s H fp,PE (cxC X N s H (compEnvC scope cl C X.env) fp) elt te) (hcalm:X.calm = true)
    (hclos:closureFor scope X.env = pure cl) (hkind:scope.kind = .function) (hcell:∀ y ∈ scope.names,y.2 ≠ .cell) (hnames:∀ y ∈ scope.names,y.2 = .local→scope.names.lookup y.1 = some .local)
    (hcl:∀ y c,cl.lookup y = some c→X.env.cells.lookup y = some c) (hhas:∀ y,((relabel scope X.env).names.lookup y = some .cell ∨ (relabel scope X.env).names.lookup y = some .free)→∃ c,cl.lookup y = some c)
    (hlen:N.length = k + js.length) (hcap:∀ i j,js[i]? = some j→∃ y,N[k + i]? = some y∧Cap X (relabel scope X.env) cl j y)
    (hs:∀ x,foldedSetIterable iter X.env x = pure x) (hN:X.N.Nodup) (hi':X.N[i]? = some y) (hy:X.env.scope.names.lookup y = some .local) (hsw:swapsWith (.ListComp elt [⟨tg,iter,[cd],0⟩] scope pos) (some (.Name y py)) spos.line X.env = pure true) :
    PS X (.Assign [.Name y py] (.ListComp elt [⟨tg,iter,[cd],0⟩] scope pos) spos) (tAsg (dCompI wi g tc te k js) (gName i)):=by
  intro pins s σ H D I h
  rw [exec_Assign_Name_used _ _ _ _ hsw]
  refine wpAny_bind (wpAny_standAt (wpAny_bind ?_))
  show wpAny _ X.A (do let _ ← comprehension (.ListComp elt [⟨tg,iter,[cd],0⟩] scope pos) scope X.env _ (newList []) false (eval iter X.env) (some (assign (.Name y py) X.env))) _ _ s
  refine wpAny_bind (wpAny_mono (comp_coreI k js hi hg hd he hcalm hclos hkind hcell hnames hcl hhas hlen hcap hs (use:=some (assign (.Name y py) X.env)) (Qv:=fun _ s'=>SP X pins D .next s') I h fun s6 H5 D' C m I6 n6 z1 z2 z3 z4 z5 q=>?_)
    (fun _ s' hq=>wpAny_pure (wpAny_pure hq)) fun _ _ e=>e)
  show wpAny _ X.A (assign (.Name y py) X.env (.ref D')) _ _ _
  refine wpAny_assign_Name (store_ok2 I6 hN hi' (.inl hy) (v:=.ref D') rfl (fun s8 I8 ⟨a,sb,ha⟩=>?_) (.inr hy))
  have na : C ≠ a := by
    rcases ha with rfl | ha
    · exact z3
    · exact Ne.symm (z4 _ _ ha)
  exact ⟨m,n6.sameBut sb na,fun h9 sb9=>⟨_,H5,I8.turned (t':=s8.toks) (fun b o hb e=>(sb9.2 b hb).trans e) z1 z3 (.inr z2) z4 z5,q⟩⟩
theorem e_compIN {elt iter tg cd:Expr} {scope:Scope} {pos:Pos} {wi:TI} {te:TE} {tc:TT} {g:TG} {cl:List (Str × Addr)} (own ys:List Str) (js:List Nat) (hclos:closureFor scope X.env = pure cl) (hi:PI X tg iter wi)
    (hg:∀ C s H fp,PG (cxC X (own ++ ys) s H (compEnvC scope cl C X.env) fp) tg g) (hd:∀ C s H fp,PT (cxC X (own ++ ys) s H (compEnvC scope cl C X.env) fp) cd tc) (he:∀ C s H fp,PE (cxC X (own ++ ys) s H (compEnvC scope cl C X.env) fp) elt te) (hcalm:X.calm = true) (hkind:scope.kind = .function)
    (hcell:(scope.names.all fun y=>y.2 != .cell) = true) (hnames:(scope.names.all fun y=>y.2 != .local || scope.names.lookup y.1 == some .local) = true) (hfr:(scope.names.all fun y=>y.2 != .free || (cl.map (·.1)).contains y.1) = true)
    (hcl:CellL X.env.cells cl) (hcap:CapL X (relabel scope X.env) cl ys js) (hs:∀ x,foldedSetIterable iter X.env x = pure x:=by intro _; rfl) :
    PE X (.ListComp elt [⟨tg,iter,[cd],0⟩] scope pos) (dCompI wi g tc te own.length js):=by
  rw [List.all_eq_true] at hcell hnames hfr
  have hc:∀ y ∈ scope.names,y.2 ≠ .cell:=fun y hy z=>by
    have := hcell y hy
    rw [z] at this
    cases this
  refine e_compI own.length js hi hg hd he hcalm hclos hkind hc (fun y hy z=>?_) hcl.at (fun y h=>?_) (by rw [List.length_append,hcap.len]) (fun i j e=>?_) hs
  · have := hnames y hy
    rw [z] at this
    simpa using this
  · obtain ⟨z,hz,rfl,hk⟩:∃ z ∈ scope.names,z.1 = y∧(z.2 = .free ∨ z.2 = .cell):=by
      rcases h with h | h
      · exact relabel_has h (.inl rfl)
      · exact relabel_has h (.inr rfl)
    rcases hk with hk | hk
    · have := hfr z hz
      rw [hk] at this
      exact lookup_has (by simpa using this)
    · exact absurd hk (hc z hz)
  · obtain ⟨y, h1, h2⟩ := hcap.at i j e
    exact ⟨y,by rw [List.getElem?_append_right (Nat.le_add_right _ _),Nat.add_sub_cancel_left]; exact h1,h2⟩
theorem ps_compIN {elt iter tg cd:Expr} {scope:Scope} {pos py spos:Pos} {i:Nat} {y:Str} {wi:TI} {te:TE} {tc:TT} {g:TG} {cl:List (Str × Addr)} (own ys:List Str) (js:List Nat) (hclos:closureFor scope X.env = pure cl) (hi:PI X tg iter wi)
    (hg:∀ C s H fp,PG (cxC X (own ++ ys) s H (compEnvC scope cl C X.env) fp) tg g) (hd:∀ C s H fp,PT (cxC X (own ++ ys) s H (compEnvC scope cl C X.env) fp) cd tc) (he:∀ C s H fp,PE (cxC X (own ++ ys) s H (compEnvC scope cl C X.env) fp) elt te) (hcalm:X.calm = true) (hkind:scope.kind = .function)
    (hcell:(scope.names.all fun y=>y.2 != .cell) = true) (hnames:(scope.names.all fun y=>y.2 != .local || scope.names.lookup y.1 == some .local) = true) (hfr:(scope.names.all fun y=>y.2 != .free || (cl.map (·.1)).contains y.1) = true)
    (hcl:CellL X.env.cells cl) (hcap:CapL X (relabel scope X.env) cl ys js) (hN:X.N.Nodup) (hi':X.N[i]? = some y) (hy:X.env.scope.names.lookup y = some .local) (hs:∀ x,foldedSetIterable iter X.env x = pure x:=by intro _; rfl) (hsw:swapsWith (.ListComp elt [⟨tg,iter,[cd],0⟩] scope pos) (some (.Name y py)) spos.line X.env = pure true:=by rfl) :
    PS X (.Assign [.Name y py] (.ListComp elt [⟨tg,iter,[cd],0⟩] scope pos) spos) (tAsg (dCompI wi g tc te own.length js) (gName i)):=by
  rw [List.all_eq_true] at hcell hnames hfr
  have hc:∀ y ∈ scope.names,y.2 ≠ .cell:=fun y hy z=>by
    have := hcell y hy
    rw [z] at this
    cases this
  refine ps_comp0I own.length js hi hg hd he hcalm hclos hkind hc (fun y hy z=>?_) hcl.at (fun y h=>?_) (by rw [List.length_append,hcap.len]) (fun i j e=>?_) hs hN hi' hy hsw
  · have := hnames y hy
    rw [z] at this
    simpa using this
  · obtain ⟨z,hz,rfl,hk⟩:∃ z ∈ scope.names,z.1 = y∧(z.2 = .free ∨ z.2 = .cell):=by
      rcases h with h | h
      · exact relabel_has h (.inl rfl)
      · exact relabel_has h (.inr rfl)
    rcases hk with hk | hk
    · have := hfr z hz
      rw [hk] at this
      exact lookup_has (by simpa using this)
    · exact absurd hk (hc z hz)
  · obtain ⟨y, h1, h2⟩ := hcap.at i j e
    exact ⟨y,by rw [List.getElem?_append_right (Nat.le_add_right _ _),Nat.add_sub_cancel_left]; exact h1,h2⟩
end
end Lw
end
section
set_option Elab.async false
set_option linter.all false
set_option maxRecDepth 100000
set_option maxHeartbeats 4000000
namespace Lw
open PySem PySem.Spec PyProof.Rows L2
section
variable {M:Model} {A:Around} {E:Value→Shared→Prop} {s:Shared}
end
section
variable {X : Cx}
end
end Lw
end
section
set_option Elab.async false
set_option linter.all false
set_option maxRecDepth 100000
set_option maxHeartbeats 4000000
namespace Lw
open PySem PySem.Spec PyProof.Rows L2
def dd (l:List Str) (x:Str):List Str:=if x ∈ l then l else l ++ [x]
def lS (a b : Str) : Prop := a.cps.toList < b.cps.toList
instance:DecidableRel lS:=fun a b=>inferInstanceAs (Decidable (a.cps.toList < b.cps.toList))
theorem lS_irr (a : Str) : ¬ lS a a := List.lt_irrefl _
theorem lS_tr {a b c:Str} (h:lS a b) (h':lS b c):lS a c:=List.lt_trans h h'
theorem lS_tri {a b:Str} (h:¬ lS a b) (h':¬ lS b a):a = b:=by
  have e:=List.le_antisymm (List.not_lt.mp h') (List.not_lt.mp h)
  cases a; cases b
  simpa using Array.toList_inj.mp e
theorem lS_as {a b:Str} (h:lS a b):¬ lS b a:=List.lt_asymm h
abbrev Inc (l : List Str) : Prop := l.Pairwise lS
theorem inc_ext:∀ {l m:List Str},Inc l→Inc m→(∀ x,x ∈ l ↔ x ∈ m)→l = m
  | [], [], _, _, _ => rfl
  | [],b :: m,_,_,h=>absurd ((h b).mpr (List.mem_cons_self ..)) (by simp)
  | a :: l,[],_,_,h=>absurd ((h a).mp (List.mem_cons_self ..)) (by simp)
  | a :: l, b :: m, h1, h2, h => by
    have ⟨a1, a2⟩ := List.pairwise_cons.mp h1
    have ⟨b1, b2⟩ := List.pairwise_cons.mp h2
    have e : a = b := by
      rcases List.mem_cons.mp ((h a).mp (List.mem_cons_self ..)) with e | e
      · exact e
      · rcases List.mem_cons.mp ((h b).mpr (List.mem_cons_self ..)) with f | f
        · exact f.symm
        · exact absurd (b1 a e) (lS_as (a1 b f))
    subst e
    rw [inc_ext a2 b2 fun x => ⟨fun hx => ?_, fun hx => ?_⟩]
    · rcases List.mem_cons.mp ((h x).mp (List.mem_cons_of_mem _ hx)) with e | e
      · subst e
        exact absurd (a1 x hx) (lS_irr x)
      · exact e
    · rcases List.mem_cons.mp ((h x).mpr (List.mem_cons_of_mem _ hx)) with e | e
      · subst e
        exact absurd (b1 x hx) (lS_irr x)
      · exact e
def insS (x : Str) : List Str → List Str
  | [] => [x]
  | y :: l=>if lS x y then x :: y :: l else if lS y x then y :: insS x l else y :: l
theorem mem_insS {x z:Str}:∀ {l:List Str},z ∈ insS x l ↔ z = x ∨ z ∈ l
  | [] => by simp [insS]
  | y :: l => by
    unfold insS
    split
    · simp
    · split
      · simp only [List.mem_cons, mem_insS (l := l)]
        constructor
        · rintro (h | h | h)
          · exact .inr (.inl h)
          · exact .inl h
          · exact .inr (.inr h)
        · rintro (h | h | h)
          · exact .inr (.inl h)
          · exact .inl h
          · exact .inr (.inr h)
      · rename_i h1 h2
        have e := lS_tri h1 h2
        subst e
        simp
theorem inc_insS {x:Str}:∀ {l:List Str},Inc l→Inc (insS x l)
  | [], _ => List.pairwise_singleton ..
  | y :: l, h => by
    have ⟨h1, h2⟩ := List.pairwise_cons.mp h
    unfold insS
    split
    · rename_i c
      exact List.pairwise_cons.mpr ⟨fun z hz=>(List.mem_cons.mp hz).elim (fun e=>e ▸ c) (fun e=>lS_tr c (h1 z e)),h⟩
    · split
      · rename_i c
        exact List.pairwise_cons.mpr ⟨fun z hz=>(mem_insS.mp hz).elim (fun e=>e ▸ c) (h1 z),inc_insS h2⟩
      · exact h
def srt (l : List Str) : List Str := l.foldr insS []
theorem inc_srt : ∀ (l : List Str), Inc (srt l)
  | [] => List.Pairwise.nil
  | x :: l => inc_insS (inc_srt l)
theorem mem_srt {x:Str}:∀ {l:List Str},x ∈ srt l ↔ x ∈ l
  | [] => Iff.rfl
  | y :: l => by
    show x ∈ insS y (srt l) ↔ _
    rw [mem_insS, mem_srt (l := l), List.mem_cons]
theorem mem_dd {l:List Str} {x z:Str}:z ∈ dd l x ↔ z ∈ l ∨ z = x:=by
  unfold dd
  split
  · rename_i h
    constructor
    · exact .inl
    · rintro (h' | rfl)
      · exact h'
      · exact h
  · simp
theorem nodup_dd {l:List Str} {x:Str} (h:l.Nodup):(dd l x).Nodup:=by
  unfold dd
  split
  · exact h
  · rename_i c
    rw [List.nodup_append]
    exact ⟨h,List.nodup_cons.mpr ⟨by simp,List.nodup_nil⟩,fun a ha b hb e=>by
      rw [List.mem_singleton] at hb
      subst hb e
      exact c ha⟩
theorem pairwise_inc {l:List Str} (h:l.Pairwise fun a b=>¬ lS b a) (n:l.Nodup):Inc l:=by
  induction l with
  | nil => exact List.Pairwise.nil
  | cons a l ih =>
    have ⟨h1, h2⟩ := List.pairwise_cons.mp h
    have ⟨n1, n2⟩ := List.nodup_cons.mp n
    refine List.pairwise_cons.mpr ⟨fun b hb => ?_, ih h2 n2⟩
    refine Decidable.byContradiction fun c => n1 ?_
    have e := lS_tri c (h1 b hb)
    exact e ▸ hb
theorem nd_len {α:Type} [DecidableEq α]:∀ {l m:List α},l.Nodup→(∀ x ∈ l,x ∈ m)→l.length ≤ m.length
  | [], m, _, _ => Nat.zero_le _
  | a :: l, m, n, h => by
    have ⟨n1, n2⟩ := List.nodup_cons.mp n
    have ha : a ∈ m := h a (List.mem_cons_self ..)
    have:=nd_len (l:=l) (m:=m.erase a) n2 fun x hx=>(List.mem_erase_of_ne (fun e:x = a=>n1 (e ▸ hx))).mpr (h x (List.mem_cons_of_mem _ hx))
    rw [List.length_erase_of_mem ha] at this
    have : 0 < m.length := List.length_pos_of_mem ha
    rw [List.length_cons]
    omega
theorem inc_nodup {l:List Str} (h:Inc l):l.Nodup:=List.Pairwise.imp (S:=fun a b=>a ≠ b) (fun {a b} (h:lS a b) (e:a = b)=>lS_irr a (e ▸ h)) h
end Lw
end
section
set_option Elab.async false
set_option linter.all false
set_option maxRecDepth 100000
set_option maxHeartbeats 4000000
namespace Lw
open PySem PySem.Spec PyProof.Rows L2
def byTx (w:World):Bool:=w.params.followText "set-order"
def tx (e : Int × Value) : Str := strOf e.2
structure SetO (prog:Program) (w:World) (o:Obj) (ss:List Str) (es:Array (Int × Value)) (ep:Nat) (t:SetTable):Prop where
  ex : o.ExactSet
  dat : o.data = .set es ep t
  el : ElemsOf (PySem.strKind prog w) es.toList
  pm : (es.toList.map tx).Perm ss
  fit : t.fits es.size = true
  bd : es.size < scanBound
  led : t.led = !byTx w
  pl : 0 < es.size → t.plain = false
section
variable {prog:Program} {w:World} {A:Around} {E:Value→Shared→Prop} {s:Shared}
end
end Lw
end
section
set_option Elab.async false
set_option linter.all false
set_option maxRecDepth 100000
set_option maxHeartbeats 4000000
namespace Lw
open PySem PySem.Spec PyProof.Rows L2
section
variable {prog:Program} {w:World} {A:Around} {E:Value→Shared→Prop} {s:Shared}
theorem rising_le:∀ {l:List Str} {p:Str},risingS p l = true→(∀ y ∈ l,¬ lS y p)∧l.Pairwise fun a b=>¬ lS b a
  | [],_,_=>⟨fun _ h=>absurd h (by simp),List.Pairwise.nil⟩
  | x :: r, p, h => by
    have h':(!ltCps x.cps.toList p.cps.toList && risingS x r) = true:=h
    rw [Bool.and_eq_true, Bool.not_eq_true', ltCps_eq] at h'
    obtain ⟨h1, h2⟩ := h'
    have n1 : ¬ lS x p := of_decide_eq_false h1
    obtain ⟨i1, i2⟩ := rising_le h2
    refine ⟨fun y hy => ?_, List.pairwise_cons.mpr ⟨i1, i2⟩⟩
    rcases List.mem_cons.mp hy with rfl | hy
    · exact n1
    · intro c
      exact i1 y hy (Decidable.byContradiction fun d=>n1 (Decidable.byContradiction fun n1'=>by
        by_cases e : lS p x
        · exact d (lS_tr c e)
        · have e2 := lS_tri n1' e
          subst e2
          exact d c))
theorem sorted_le {l:List Str} (h:sortedS l = true):l.Pairwise fun a b=>¬ lS b a:=by
  cases l with
  | nil => exact List.Pairwise.nil
  | cons x r =>
    obtain ⟨h1, h2⟩ := rising_le (p := x) (l := r) h
    exact List.pairwise_cons.mpr ⟨h1, h2⟩
end
section
variable {X : Cx}
theorem vals_str:∀ {us:List Value} {ys:List Str},StrsAre us ys→Vals (ys.map V.str) us
  | _, _, .nil => .nil
  | _, _, .cons x t r => .cons ⟨t, rfl⟩ (vals_str r)
theorem boot_sorted:bootBuiltins "sorted" = some (.builtin "sorted"):=by decide +kernel
end
end Lw
end
section
set_option Elab.async false
set_option linter.all false
set_option maxRecDepth 100000
set_option maxHeartbeats 4000000
namespace Lw
open PySem PySem.Spec PyProof.Rows L2
inductive All2 {α β:Type} (R:α→β→Prop):List α→List β→Prop where
  | nil : All2 R [] []
  | cons {a:α} {b:β} {l:List α} {m:List β}:R a b→All2 R l m→All2 R (a :: l) (b :: m)
theorem All2.len {α β:Type} {R:α→β→Prop}:∀ {l:List α} {m:List β},All2 R l m→l.length = m.length
  | _, _, .nil => rfl
  | _,_,.cons _ r=>by rw [List.length_cons,List.length_cons,r.len]
theorem All2.imp {α β:Type} {R S:α→β→Prop} (h:∀ a b,R a b→S a b):∀ {l:List α} {m:List β},All2 R l m→All2 S l m
  | _, _, .nil => .nil
  | _, _, .cons x r => .cons (h _ _ x) (r.imp h)
theorem All2.snoc {α β:Type} {R:α→β→Prop} {a:α} {b:β} (x:R a b):∀ {l:List α} {m:List β},All2 R l m→All2 R (l ++ [a]) (m ++ [b])
  | _, _, .nil => .cons x .nil
  | _, _, .cons y r => .cons y (r.snoc x)
theorem All2.get {α β:Type} {R:α→β→Prop}:∀ {l:List α} {m:List β},All2 R l m→∀ {i:Nat} {a:α},l[i]? = some a→∃ b,m[i]? = some b∧R a b
  | _, _, .nil, i, a, h => by simp at h
  | _, _, .cons x r, 0, a, h => by
    simp at h
    subst h
    exact ⟨_, rfl, x⟩
  | _, _, .cons x r, i + 1, a, h => by
    simp only [List.getElem?_cons_succ] at h ⊢
    exact r.get h
def Kt (H H':Hp):Prop:=∀ p xs,H p = some (.tup xs)→H' p = some (.tup xs)
theorem Kt.trans {H H1 H2:Hp} (a:Kt H H1) (b:Kt H1 H2):Kt H H2:=fun p xs h=>b p xs (a p xs h)
theorem kt_of {H H':Hp} (s:Same H H'):Kt H H':=fun p xs h=>s p _ h
theorem kt_upd {H:Hp} {D:Addr} {zs:List V} {o:HO} (h:H D = some (.lst zs)):Kt H (upd H D o):=fun p xs e=>by
  have ne : p ≠ D := fun z => by
    subst z
    rw [h] at e
    cases e
  rw [upd_ne ne]
  exact e
theorem same_app' {H0 H:Hp} {D:Addr} {o:HO} (s:Same H0 H) (h:H0 D = none):Same H0 (upd H D o):=fun b u e=>by
  rw [upd_ne (ne_of_none e h)]
  exact s b u e
theorem comp_abs {β:Type} {K:PySem.W.Frag} {a:Addr} {xs:List V} {ms:List β} {g:TG} {te:TE} {k:Nat} {js:List Nat} {σ:L2.St} {H1:Hp} {Q:VK} (M:Hp→V→β→Prop) (upM:∀ v m H H',Kt H H'→M H v m→M H' v m) (R:Hp→β→V→Prop) (up:∀ m y H H',Kt H H'→R H m y→R H' m y)
    (hz:xs.length ≤ 1000) (hx:SqL K H1 a xs) (hm:All2 (M H1) xs ms)
    (hs:∀ v m H2,M H2 v m→m ∈ ms→Same H1 H2→∀ P:VK,(∀ y H3,Same H2 H3→R H3 m y→P y H3)→g v (List.replicate k none ++ capσ js σ) H2 fun σ2 H3=>σ2.drop k = capσ js σ∧te σ2 H3 P)
    (hq:∀ D H' ys,Same H1 H'→H1 D = none→H' D = some (.lst ys)→All2 (R H') ms ys→Q (.ref D) H'):CGoal (Itl K a) g te k js σ H1 Q:=by
  unfold CGoal
  intro D hD
  have hl := hm.len
  refine ⟨fun i m H=>m = xs.length - i∧i ≤ xs.length∧Same H1 H∧∃ ys,H D = some (.lst ys)∧All2 (R H) (ms.take i) ys,⟨xs.length,by simp,Nat.zero_le _,same_upd hD,[],upd_same,.nil⟩,?_⟩
  rintro i m H ⟨rfl, hi, sm, ys, hH, ar⟩
  have sq := sm.seq hx
  by_cases hlt : i < xs.length
  · have e : xs[i]? = some xs[i] := by simp [hlt]
    refine .inr ⟨⟨xs, _, sq, e⟩, fun x H' y => ?_⟩
    obtain ⟨e1, e2⟩ := y
    subst e1
    have hv := e2 xs sq
    obtain ⟨m, hmi, hM⟩ := hm.get hv
    refine hs x m _ (upM _ _ _ _ (kt_of sm) hM) (List.mem_of_getElem? hmi) sm _ fun y H3 s3 r3=>⟨ys,s3 _ _ hH,?_,xs.length - (i + 1),by omega,rfl,hlt,same_app' (sm.trans s3) hD,ys ++ [y],upd_same,?_⟩
    · rw [← ar.len, List.length_take]
      exact Nat.lt_of_le_of_lt (Nat.min_le_left _ _) (Nat.lt_of_lt_of_le hlt (Nat.le_trans hz (by decide)))
    · have kt:Kt H3 (upd H3 D (.lst (ys ++ [y]))):=kt_upd (s3 _ _ hH)
      rw [List.take_add_one, hmi]
      exact (ar.imp fun v y r=>up v y _ _ ((kt_of s3).trans kt) r).snoc (up _ _ _ _ kt r3)
  · have e : i = xs.length := by omega
    subst e
    rw [hl, List.take_length] at ar
    exact .inl ⟨⟨xs,sq,Nat.le_refl _⟩,hq D _ ys sm hD hH ar⟩
theorem comp_absI {β:Type} {K:PySem.W.Frag} {a:Addr} {xs:List V} {ms:List β} {g:TG} {tc:TT} {te:TE} {k:Nat} {js:List Nat} {σ:L2.St} {H1:Hp} {Q:VK} (M:Hp→V→β→Prop) (upM:∀ v m H H',Kt H H'→M H v m→M H' v m) (R:Hp→β→V→Prop) (up:∀ m y H H',Kt H H'→R H m y→R H' m y)
    (c:β→Bool) (hz:xs.length ≤ 1000) (hx:SqL K H1 a xs) (hm:All2 (M H1) xs ms)
    (hs:∀ v m H2,M H2 v m→m ∈ ms→Same H1 H2→∀ (P:VK) (P':Hp→Prop),(c m = true→∀ y H3,Same H2 H3→R H3 m y→P y H3)→(c m = false→∀ H3,Same H2 H3→P' H3)→g v (List.replicate k none ++ capσ js σ) H2 fun σ2 H3=>σ2.drop k = capσ js σ∧tc σ2 H3 fun b H4=>Br b (te σ2 H4 P) (P' H4))
    (hq:∀ D H' ys,Same H1 H'→H1 D = none→H' D = some (.lst ys)→All2 (R H') (ms.filter c) ys→Q (.ref D) H'):CGoalI (Itl K a) g tc te k js σ H1 Q:=by
  unfold CGoalI
  intro D hD
  have hl := hm.len
  refine ⟨fun i m H=>m = xs.length - i∧i ≤ xs.length∧Same H1 H∧∃ ys,H D = some (.lst ys)∧All2 (R H) ((ms.take i).filter c) ys,⟨xs.length,by simp,Nat.zero_le _,same_upd hD,[],upd_same,.nil⟩,?_⟩
  rintro i m H ⟨rfl, hi, sm, ys, hH, ar⟩
  have sq := sm.seq hx
  by_cases hlt : i < xs.length
  · have e : xs[i]? = some xs[i] := by simp [hlt]
    refine .inr ⟨⟨xs, _, sq, e⟩, fun x H' y => ?_⟩
    obtain ⟨e1, e2⟩ := y
    subst e1
    have hv := e2 xs sq
    obtain ⟨m, hmi, hM⟩ := hm.get hv
    have yl : ys.length < sizeLine := by
      rw [← ar.len]
      refine Nat.lt_of_le_of_lt (List.length_filter_le _ _) ?_
      rw [List.length_take]
      exact Nat.lt_of_le_of_lt (Nat.min_le_left _ _) (Nat.lt_of_lt_of_le hlt (Nat.le_trans hz (by decide)))
    refine hs x m _ (upM _ _ _ _ (kt_of sm) hM) (List.mem_of_getElem? hmi) sm _ _ (fun hc y H3 s3 r3=>⟨ys,s3 _ _ hH,yl,xs.length - (i + 1),by omega,rfl,hlt,same_app' (sm.trans s3) hD,ys ++ [y],upd_same,?_⟩) fun hc H3 s3=>⟨xs.length - (i + 1),by omega,rfl,hlt,sm.trans s3,ys,s3 _ _ hH,?_⟩
    · have kt:Kt H3 (upd H3 D (.lst (ys ++ [y]))):=kt_upd (s3 _ _ hH)
      rw [List.take_add_one, hmi, List.filter_append]
      have ef:(Option.toList (some m)).filter c = [m]:=by simp [hc]
      rw [ef]
      exact (ar.imp fun v y r=>up v y _ _ ((kt_of s3).trans kt) r).snoc (up _ _ _ _ kt r3)
    · rw [List.take_add_one, hmi, List.filter_append]
      have ef:(Option.toList (some m)).filter c = []:=by simp [hc]
      rw [ef, List.append_nil]
      exact ar.imp fun v y r => up v y _ _ (kt_of s3) r
  · have e : i = xs.length := by omega
    subst e
    rw [hl, List.take_length] at ar
    exact .inl ⟨⟨xs,sq,Nat.le_refl _⟩,hq D _ ys sm hD hH ar⟩
structure Gm where
  d : Int
  a : Str
  b : Str
  h : Int
  s : Int
def GmAt (H:Hp) (v:V) (g:Gm):Prop:=∃ p,v = .ref p∧H p = some (.tup [.int g.d,.str g.a,.str g.b,.int g.h,.int g.s])
theorem gm_up (v:V) (g:Gm) (H H':Hp) (k:Kt H H') (h:GmAt H v g):GmAt H' v g:=by
  obtain ⟨p, e, r⟩ := h
  exact ⟨p, e, k _ _ r⟩
def trn (g : Gm) : Gm := ⟨g.d, g.b, g.a, 2 - g.h, -g.s⟩
def plr (gs:List Gm):List Str:=srt (gs.map (·.a) ++ gs.map (·.b))
def isIn (n : Str) (g : Gm) : Bool := n == g.a || n == g.b
def toldG (n:Str) (g:Gm):Gm:=if g.a = n then g else trn g
def tld (n:Str) (gs:List Gm):List Gm:=(gs.filter (isIn n)).map (toldG n)
def tkr (n:Str) (gs:List Gm):List Str:=srt (((tld n gs).filter fun g=>decide (g.h < 2)).map (·.b))
theorem mem_plr {gs:List Gm} {x:Str}:x ∈ plr gs ↔ ∃ g ∈ gs,x = g.a ∨ x = g.b:=by
  unfold plr
  rw [mem_srt, List.mem_append, List.mem_map, List.mem_map]
  constructor
  · rintro (⟨g, h, rfl⟩ | ⟨g, h, rfl⟩)
    · exact ⟨g, h, .inl rfl⟩
    · exact ⟨g, h, .inr rfl⟩
  · rintro ⟨g, h, rfl | rfl⟩
    · exact .inl ⟨g, h, rfl⟩
    · exact .inr ⟨g, h, rfl⟩
section
variable {X : Cx}
end
def gd (g:Gm):PyData:=.tuple [.int g.d,.str g.a,.str g.b,.int g.h,.int g.s]
theorem eqv_shaped {d:PyData} (h:SeqAt.shaped d = true):PyData.eqv d d = true:=SeqAt.eqv_refl d (SeqAt.canLay_of_shaped h)
end Lw
end
section
set_option Elab.async false
set_option linter.all false
set_option maxRecDepth 100000
set_option maxHeartbeats 4000000
namespace Lw
open PySem PySem.Spec PyProof.Rows L2
section
variable {X : Cx}
end
theorem comp_rngR {lo:Int} {n:Nat} {g:TG} {te:TE} {k:Nat} {js:List Nat} {σ:L2.St} {H1:Hp} {Q:VK} (R:Hp→V→Prop) (up:∀ y H H',Kt H H'→R H y→R H' y) (hz:n ≤ 1000)
    (hs:∀ i H2,i < n→Same H1 H2→∀ P:VK,(∀ y H3,Same H2 H3→R H3 y→P y H3)→g (.int (lo + i)) (List.replicate k none ++ capσ js σ) H2 fun σ2 H3=>σ2.drop k = capσ js σ∧te σ2 H3 P)
    (hq:∀ D H' ys,Same H1 H'→H1 D = none→H' D = some (.lst ys)→ys.length = n→(∀ y ∈ ys,R H' y)→Q (.ref D) H'):CGoal (Itr lo n) g te k js σ H1 Q:=by
  unfold CGoal
  intro D hD
  refine ⟨fun i m H=>m = n - i∧i ≤ n∧Same H1 H∧∃ ys,H D = some (.lst ys)∧ys.length = i∧∀ y ∈ ys,R H y,⟨n,by simp,Nat.zero_le _,same_upd hD,[],upd_same,rfl,fun _ h=>absurd h (by simp)⟩,?_⟩
  rintro i m H ⟨rfl, hi, sm, ys, hH, hl, ar⟩
  by_cases hlt : i < n
  · refine .inr ⟨hlt, fun x H' y => ?_⟩
    obtain ⟨e1, e2⟩ := y
    subst e1 e2
    refine hs i _ hlt sm _ fun y H3 s3 r3=>⟨ys,s3 _ _ hH,?_,n - (i + 1),by omega,rfl,hlt,same_app' (sm.trans s3) hD,ys ++ [y],upd_same,by rw [List.length_append,hl]; rfl,fun z hz=>?_⟩
    · rw [hl]
      exact Nat.lt_of_lt_of_le hlt (Nat.le_trans hz (by decide))
    · have kt:Kt H3 (upd H3 D (.lst (ys ++ [y]))):=kt_upd (s3 _ _ hH)
      rcases List.mem_append.mp hz with hz | hz
      · exact up z _ _ ((kt_of s3).trans kt) (ar z hz)
      · rw [List.mem_singleton] at hz
        subst hz
        exact up _ _ _ kt r3
  · have e : i = n := by omega
    subst e
    exact .inl ⟨Nat.le_refl _, hq D _ ys sm hD hH hl ar⟩
end Lw
end
section
set_option Elab.async false
set_option linter.all false
set_option maxRecDepth 100000
set_option maxHeartbeats 4000000
namespace Lw
open PySem PySem.Spec PyProof.Rows L2
section
variable {X : Cx}
end
structure QA (X : Cx) (es : List Expr) (t : TA) : Prop where
  pa : PA X es t
end Lw
end
section
set_option Elab.async false
set_option linter.all false
set_option maxRecDepth 100000
set_option maxHeartbeats 4000000
namespace Lw
open PySem PySem.Spec PyProof.Rows L2
section
variable {X : Cx}
end
end Lw
end
section
set_option Elab.async false
set_option linter.all false
set_option maxRecDepth 100000
set_option maxHeartbeats 4000000
namespace Lw
open PySem PySem.Spec PyProof.Rows L2
def Bits (ns:List Int):Prop:=∀ n ∈ ns,Builtin.Int.intBits n ≤ 2 ^ 20
theorem bits_of {ns:List Int} (h:PySem.W.WData.layableAll [PySem.W.WData.list (ns.map PySem.W.WData.int)] = true):Bits ns:=fun n hn=>by
  have h1:=PySem.W.layableW_arg h _ (List.mem_singleton.mpr rfl)
  have h2:=PySem.W.layableW_item h1 (.int n) (List.mem_map.mpr ⟨n,hn,rfl⟩)
  have h3 := PySem.W.lay0_int h2
  have h4 : PyData.layable0 (.int n) = true := by
    have := h3
    simp only [PyData.layableAll0,List.all_cons,List.all_nil,Bool.and_true] at this
    exact this
  exact PyData.bits_of_layable h4
section
variable {X : Cx}
theorem o_mulB:OpR X (binaryOp .Mult) (dI IntMulOk fun i j=>.int (i * j)):=opD (opI fun _ _ _ _ _ _ _ hc q=>mul_int q hc)
end
section
variable {P:Program} {w:World} {K:PySem.W.Frag} {mg:Str→Option Value} {base:Heap}
end
open PySem PySem.W PySem.Calls PyProof.Rows in
theorem attach_callB {l:OpenLaw} {n:Nat} {q:Program} {loose:List Str} {XP:(Str→Option Value)→Heap→Prop} {YP:World→Heap→Prop} {d:DefRec} (hn:l.most = some n) (nodf:d.params.defaults = [])
    (go:∀ (w:World) (t₀ t:Shared) (mg mb:Str→Option Value) (fa:Addr) (o:Obj) (pm cd doc:Value) (a:Addr) (vs:List Value) (ns:List Int),Bits ns→Ground q loose [] XP w t₀ mg mb t.heap→YP w t.heap→t.heap.get? fa = some o→o.data = .func (docDef d.name d.params d.body d.scope pm cd doc)→t.heap.CodeRec cd d.name→mg d.name = some (.ref fa)→t.heap.get? a = some { cls:=.type "list",data:=.seq vs.toArray }→IntsAre vs ns→ns.length ≤ n→t.gens = #[] →
      codeAny (model l.prog w) callerA (.call (.ref fa) ⟨[.ref a],[]⟩) (fun r z=>r = .ok (.ret (.bool true))∧OldK t.heap z.heap∧z.os = t.os∧AllBare z.gens) t):WalkO q loose XP YP l.row.toRowW d [] (fun f vs=>PySem.call f vs):=by
  intro w t₀ t mg mb G Y fa o pm cd doc dV kV x1 x2 x3 x4 x5 x6 args vals as pre lay rd wl lo
  have e1 : dV = .none := Dflts.none x4 nodf
  have e2 : kV = .none := Dflts.noKw x4
  subst e1 e2
  obtain ⟨a,vs,ns,rfl,rfl,y1,y2,y3⟩:=Att.script_of hn pre wl
  have run:=go w t₀ t mg mb fa o pm cd doc a vs ns (bits_of lay) G Y x1 (fd_plain x2) x3 x5 y1 y2 y3 x6
  refine enter_call (codeAny_mono run fun r z hq => ?_)
  obtain ⟨rfl, z2, z3, z4⟩ := hq
  refine ⟨.inl ⟨.bool true,.bool true,[],rfl,fun _=>rfl,.bool true,Att.post_true l _,fun _=>⟨List.Pairwise.nil,fun _ no=>(nomatch no)⟩⟩,z2,z3,z4⟩
end Lw
end
section
set_option Elab.async false
set_option linter.all false
set_option maxRecDepth 100000
set_option maxHeartbeats 4000000
namespace Lw
open PySem PySem.Spec PySem.W PyProof.Rows
def Rn {α:Type} (key:Nat→Int) (n:Nat):KasT α→(α→Prop)→Prop
  | .ret a, R => R a
  | .ask i j k,R=>i < n∧j < n∧Rn key n (k (decide (key i < key j))) R
theorem Rn.bind {α β:Type} {key:Nat→Int} {n:Nat} {f:α→KasT β} {R:β→Prop}:∀ {t:KasT α},Rn key n t (fun a=>Rn key n (f a) R)→Rn key n (t.bind f) R
  | .ret _, h => h
  | .ask _ _ k,⟨h1,h2,h3⟩=>⟨h1,h2,Rn.bind (t:=k _) h3⟩
theorem Rn.mono {α:Type} {key:Nat→Int} {n:Nat} {R R':α→Prop} (hr:∀ a,R a→R' a):∀ {t:KasT α},Rn key n t R→Rn key n t R'
  | .ret a, h => hr a h
  | .ask _ _ k,⟨h1,h2,h3⟩=>⟨h1,h2,Rn.mono hr (t:=k _) h3⟩
theorem Rn.wp {α:Type} {key:Nat→Int} {n:Nat} {cmp:Nat→Nat→(Bool→Shared→Prop)→Shared→Prop} {s:Shared} (hc:∀ i j,i < n→j < n→∀ C:Bool→Shared→Prop,C (decide (key i < key j)) s→cmp i j C s) {Q:α→Shared→Prop}:∀ {t:KasT α},Rn key n t (fun a=>Q a s)→t.kasWp cmp Q s
  | .ret _, h => h
  | .ask i j k,⟨h1,h2,h3⟩=>hc i j h1 h2 _ (Rn.wp hc (t:=k _) h3)
section
variable {key : Nat → Int} {N : Nat}
def Pv (p : Array Nat) (k : Nat) : Nat := p[k]?.getD 0
theorem pv_getD (p:Array Nat) (k:Nat):p.getD k 0 = Pv p k:=by
  unfold Pv
  exact Array.getD_eq_getD_getElem? ..
theorem pv_rev {p:Array Nat} {i j:Nat} (hj:j ≤ p.size) (k:Nat):Pv (kas_rev p i j) k = if i ≤ k∧k < j then Pv p (i + j - 1 - k) else Pv p k:=by
  unfold Pv kas_rev
  rw [getElem?_mirror_all hj]
  split <;> rfl
theorem pv_bub {p:Array Nat} {src d:Nat} (hs:src < p.size) (hd:d ≤ src) (k:Nat):Pv (bubble p src d) k = if k = src - d then Pv p src else if src - d < k∧k ≤ src then Pv p (k - 1) else Pv p k:=by
  unfold Pv
  rw [getElem?_bubble hs d hd]
  split
  · rfl
  · split <;> rfl
theorem rev_size (p:Array Nat) (i j:Nat):(kas_rev p i j).size = p.size:=mirror_size _ _ _ _
def Lt (key:Nat→Int) (i j:Nat):Prop:=key i < key j ∨ (key i = key j∧i < j)
structure Stp (N:Nat) (p:Array Nat) (n:Nat):Prop where
  sz : p.size = N
  tl : ∀ k, n ≤ k → k < N → Pv p k = k
  hd : ∀ k, k < n → Pv p k < n
  le : n ≤ N
theorem Stp.lt {p:Array Nat} {n:Nat} (h:Stp N p n) {k:Nat} (hk:k < N):Pv p k < N:=by
  by_cases c : k < n
  · have := h.hd k c
    have := h.le
    omega
  · rw [h.tl k (by omega) hk]
    exact hk
theorem Stp.one {p:Array Nat} {n:Nat} (h:Stp N p n) (hn:n < N):Stp N p (n + 1):=⟨h.sz,fun k h1 h2=>h.tl k (by omega) h2,fun k hk=>by
  by_cases c : k < n
  · have := h.hd k c
    omega
  · have : k = n := by omega
    subst this
    rw [h.tl k (Nat.le_refl _) hn]
    exact hk, hn⟩
theorem Stp.rev {p:Array Nat} {n i:Nat} (h:Stp N p n) {j:Nat} (hj:j ≤ n):Stp N (kas_rev p i j) n:=⟨by rw [rev_size,h.sz],fun k h1 h2=>by
  rw [pv_rev (by rw [h.sz]; have:=h.le; omega),if_neg (by omega)]
  exact h.tl k h1 h2, fun k hk => by
  rw [pv_rev (by rw [h.sz]; have := h.le; omega)]
  split
  · exact h.hd _ (by omega)
  · exact h.hd k hk, h.le⟩
def As (key:Nat→Int) (p:Array Nat) (n:Nat):Prop:=∀ a b,a < b→b < n→Lt key (Pv p a) (Pv p b)
theorem as_one {p:Array Nat} {n:Nat} (h:Stp N p n) (ha:As key p n) (h1:1 ≤ n) (hn:n < N) (hk:¬ key (Pv p n) < key (Pv p (n - 1))):As key p (n + 1):=fun a b hab hb=>by
  by_cases c : b < n
  · exact ha a b hab c
  · have : b = n := by omega
    subst this
    have e := h.tl b (Nat.le_refl _) hn
    have l := h.hd a hab
    rw [e] at hk ⊢
    have q : key (Pv p a) ≤ key (Pv p (b - 1)) := by
      by_cases d : a = b - 1
      · rw [d]
        exact Int.le_refl _
      · rcases ha a (b - 1) (by omega) (by omega) with x | x <;> omega
    by_cases d : key (Pv p a) < key b
    · exact .inl d
    · exact .inr ⟨by omega, l⟩
theorem asc_ok {p:Array Nat}:∀ (f n:Nat),Stp N p n→As key p n→1 ≤ n→n + f = N→Rn key N (kas_asc p f n) fun m=>Stp N p m∧As key p m∧n ≤ m∧(m < N→key (Pv p m) < key (Pv p (m - 1)))
  | 0,n,h,ha,h1,e=>⟨h,ha,Nat.le_refl _,fun c=>by omega⟩
  | f + 1, n, h, ha, h1, e => by
    show _ < N ∧ _ < N ∧ Rn key N _ _
    rw [pv_getD, pv_getD]
    refine ⟨h.lt (by omega), h.lt (by omega), ?_⟩
    by_cases c : key (Pv p n) < key (Pv p (n - 1))
    · rw [decide_eq_true c]
      exact ⟨h, ha, Nat.le_refl _, fun _ => c⟩
    · rw [decide_eq_false c]
      exact Rn.mono (fun m ⟨a1,a2,a3,a4⟩=>⟨a1,a2,by omega,a4⟩) (asc_ok f (n + 1) (h.one (by omega)) (as_one h ha h1 (by omega) c) (by omega) (by omega))
def Da (key:Nat→Int) (p:Array Nat) (n:Nat):Prop:=∀ a b,a < b→b < n→Lt key (Pv p b) (Pv p a)
structure De (key:Nat→Int) (p:Array Nat) (n q:Nat):Prop where
  ql : q < n
  dn:∀ a b,a < b→b < n→a + q + 1 < n→Lt key (Pv p b) (Pv p a)
  gp:∀ a,a + q + 1 < n→key (Pv p (n - 1)) < key (Pv p a)
  eq:∀ a b,n ≤ a + q + 1→a < b→b < n→key (Pv p a) = key (Pv p b)∧Pv p a < Pv p b
theorem De.all {p:Array Nat} {n q:Nat} (h:Stp N p n) (d:De key p n q):Da key (kas_rev p (n - (q + 1)) n) n:=by
  have hz : n ≤ p.size := by rw [h.sz]; exact h.le
  have ql := d.ql
  refine fun a b hab hb => ?_
  rw [pv_rev hz, pv_rev hz]
  by_cases ca : n - (q + 1) ≤ a
  · rw [if_pos ⟨by omega, hb⟩, if_pos ⟨ca, by omega⟩]
    obtain ⟨e,l⟩:=d.eq (n - (q + 1) + n - 1 - b) (n - (q + 1) + n - 1 - a) (by omega) (by omega) (by omega)
    exact .inr ⟨e, l⟩
  · rw [if_neg (show ¬ (n - (q + 1) ≤ a ∧ a < n) by omega)]
    split
    · exact d.dn a _ (by omega) (by omega) (by omega)
    · exact d.dn a b hab hb (by omega)
theorem De.zero {p:Array Nat} {n:Nat} (d:De key p n 0):Da key p n:=fun a b hab hb=>d.dn a b hab hb (by omega)
theorem De.last {p:Array Nat} {n q:Nat} (d:De key p n q) {a:Nat} (ha:a < n):key (Pv p (n - 1)) ≤ key (Pv p a):=by
  have ql := d.ql
  by_cases e : a = n - 1
  · rw [e]
    exact Int.le_refl _
  · by_cases c : a + q + 1 < n
    · exact Int.le_of_lt (d.gp a c)
    · have:=(d.eq a (n - 1) (by omega) (by omega) (by omega)).1
      omega
theorem Da.below {p:Array Nat} {n:Nat} (h:Stp N p n) (d:Da key p n) (hn:n < N) (hk:∀ a,a < n→key n < key (Pv p a)):De key p (n + 1) 0:=⟨by omega,fun a b hab hb _=>by
  by_cases c : b < n
  · exact d a b hab c
  · have : b = n := by omega
    subst this
    rw [h.tl b (Nat.le_refl _) hn]
    exact .inl (hk a hab), fun a ha => by
  show key (Pv p n) < _
  rw [h.tl n (Nat.le_refl _) hn]
  exact hk a (by omega), fun a b h1 h2 h3 => by omega⟩
theorem De.same {p:Array Nat} {n q:Nat} (h:Stp N p n) (d:De key p n q) (hn:n < N) (hk:key n = key (Pv p (n - 1))):De key p (n + 1) (q + 1):=by
  have ql := d.ql
  have e := h.tl n (Nat.le_refl _) hn
  refine ⟨by omega,fun a b hab hb hq=>?_,fun a ha=>?_,fun a b h1 h2 h3=>?_⟩
  · by_cases c : b < n
    · exact d.dn a b hab c (by omega)
    · have : b = n := by omega
      subst this
      rw [e]
      have := d.gp a (by omega)
      exact .inl (by omega)
  · show key (Pv p n) < _
    rw [e, hk]
    exact d.gp a (by omega)
  · by_cases c : b < n
    · exact d.eq a b (by omega) h2 c
    · have : b = n := by omega
      subst this
      rw [e]
      refine ⟨?_, h.hd a h2⟩
      by_cases z : a = b - 1
      · rw [z]
        exact hk.symm
      · rw [hk]
        exact (d.eq a (b - 1) (by omega) (by omega) (by omega)).1
theorem desc_ok:∀ (f:Nat) {p:Array Nat} {n q:Nat},Stp N p n→De key p n q→n + f = N→Rn key N (kas_desc f p n q) fun r=>Stp N r.1 r.2.1∧De key r.1 r.2.1 r.2.2
  | 0, p, n, q, h, d, e => ⟨h, d⟩
  | f + 1, p, n, q, h, d, e => by
    have ql := d.ql
    have hn : n < N := by omega
    show _ < N ∧ _ < N ∧ Rn key N _ _
    rw [pv_getD, pv_getD]
    have en := h.tl n (Nat.le_refl _) hn
    refine ⟨h.lt hn, h.lt (by omega), ?_⟩
    by_cases c : key (Pv p n) < key (Pv p (n - 1))
    · simp only [decide_eq_true c, ↓reduceIte]
      rw [en] at c
      by_cases z : q > 0
      · rw [if_pos z]
        have h' := h.rev (i := n - (q + 1)) (Nat.le_refl n)
        refine desc_ok f (h'.one hn) ((d.all h).below h' hn fun a ha=>?_) (by omega)
        rw [pv_rev (by rw [h.sz]; omega)]
        split
        · have:=d.last (a:=n - (q + 1) + n - 1 - a) (by omega)
          omega
        · have := d.last ha
          omega
      · rw [if_neg z]
        have : q = 0 := by omega
        subst this
        exact desc_ok f (h.one hn) (d.zero.below h hn fun a ha=>by have:=d.last ha; omega) (by omega)
    · simp only [decide_eq_false c,Bool.false_eq_true,↓reduceIte]
      show _ < N ∧ _ < N ∧ Rn key N _ _
      refine ⟨h.lt (by omega), h.lt hn, ?_⟩
      by_cases c' : key (Pv p (n - 1)) < key (Pv p n)
      · simp only [decide_eq_true c', ↓reduceIte]
        exact ⟨h, d⟩
      · simp only [decide_eq_false c',Bool.false_eq_true,↓reduceIte]
        exact desc_ok f (h.one hn) (d.same h hn (by rw [en] at c c'; omega)) (by omega)
theorem Da.turn {p:Array Nat} {n:Nat} (h:Stp N p n) (d:Da key p n):As key (kas_rev p 0 n) n:=fun a b hab hb=>by
  have hz : n ≤ p.size := by rw [h.sz]; exact h.le
  rw [pv_rev hz,pv_rev hz,if_pos ⟨Nat.zero_le _,by omega⟩,if_pos ⟨Nat.zero_le _,hb⟩]
  exact d _ _ (by omega) (by omega)
theorem tail3_ok {p:Array Nat} {n:Nat} (h:Stp N p n) (d:Da key p n) (h1:1 ≤ n):Rn key N (kas_tail3 n N p) fun r=>Stp N r.2 r.1∧As key r.2 r.1∧1 ≤ r.1:=by
  unfold kas_tail3
  exact Rn.bind (Rn.mono (fun m ⟨a1,a2,a3,_⟩=>⟨a1,a2,by omega⟩) (asc_ok (N - n) n (h.rev (Nat.le_refl n)) (d.turn h) h1 (by have:=h.le; omega)))
theorem part_ok {p:Array Nat} {n:Nat} (h:Stp N p n) (d:Da key p n) (h1:1 ≤ n) (hn:n < N) (hk:∀ a,a < n→key n < key (Pv p a)):Rn key N (kas_descPart n N p) fun r=>Stp N r.2 r.1∧As key r.2 r.1∧1 ≤ r.1:=by
  unfold kas_descPart
  refine Rn.bind (Rn.mono ?_ (desc_ok (N - (n + 1)) (h.one hn) (d.below h hn hk) (by omega)))
  rintro ⟨p', n', q'⟩ ⟨h', d'⟩
  have ql := d'.ql
  have ql : q' < n' := ql
  show Rn key N (if q' > 0 then kas_tail3 n' N (kas_rev p' (n' - (q' + 1)) n') else kas_tail3 n' N p') _
  by_cases z : q' > 0
  · rw [if_pos z]
    exact tail3_ok (h'.rev (Nat.le_refl _)) (d'.all h') (by omega)
  · rw [if_neg z]
    have : q' = 0 := by omega
    subst this
    exact tail3_ok h' d'.zero (by omega)
theorem count_ok {p:Array Nat} (h:Stp N p 1) (hN:1 ≤ N):Rn key N (kas_count N p) fun r=>Stp N r.2 r.1∧As key r.2 r.1∧1 ≤ r.1:=by
  unfold kas_count
  refine Rn.bind (Rn.mono ?_ (asc_ok (N - 1) 1 h (fun a b h1 h2=>by omega) (Nat.le_refl _) (by omega)))
  intro n ⟨h', a', n1, lo⟩
  have le := h'.le
  by_cases e : (n == N) = true
  · rw [if_pos e]
    exact ⟨h', a', n1⟩
  · rw [if_neg e]
    have hn : n < N := by
      have : n ≠ N := fun c => e (by simp [c])
      omega
    have lo := lo hn
    rw [h'.tl n (Nat.le_refl _) hn] at lo
    by_cases z : n > 1
    · rw [if_pos z]
      show _ < N ∧ _ < N ∧ Rn key N _ _
      rw [pv_getD, pv_getD]
      refine ⟨h'.lt (by omega), h'.lt (by omega), ?_⟩
      by_cases c : key (Pv p 0) < key (Pv p (n - 1))
      · simp only [decide_eq_true c, ↓reduceIte]
        exact ⟨h', a', n1⟩
      · simp only [decide_eq_false c,Bool.false_eq_true,↓reduceIte]
        have hz : n ≤ p.size := by rw [h'.sz]; exact le
        have mono:∀ a b,a ≤ b→b < n→key (Pv p a) ≤ key (Pv p b):=fun a b hab hb=>by
          by_cases e : a = b
          · rw [e]
            exact Int.le_refl _
          · rcases a' a b (by omega) hb with x | x <;> omega
        have alike:∀ a,a < n→key (Pv p a) = key (Pv p (n - 1)):=fun a ha=>by
          have := mono 0 a (by omega) ha
          have := mono a (n - 1) (by omega) (by omega)
          omega
        refine part_ok (h'.rev (Nat.le_refl n)) (fun a b hab hb=>?_) n1 hn fun a ha=>?_
        · rw [pv_rev hz,pv_rev hz,if_pos ⟨Nat.zero_le _,hb⟩,if_pos ⟨Nat.zero_le _,by omega⟩]
          exact a' _ _ (by omega) (by omega)
        · rw [pv_rev hz,if_pos ⟨Nat.zero_le _,ha⟩,alike _ (by omega)]
          exact lo
    · rw [if_neg z]
      have : n = 1 := by omega
      subst this
      exact part_ok h' (fun a b h1 h2=>by omega) n1 hn fun a ha=>by
        have : a = 0 := by omega
        subst this
        exact lo
theorem place_ok {p:Array Nat} {k:Nat} (h:Stp N p k) (ha:As key p k) (hk:k < N):∀ (f l r:Nat),l ≤ r→r ≤ k→r ≤ l + f→(∀ a,a < l→¬ key k < key (Pv p a))→(∀ a,r ≤ a→a < k→key k < key (Pv p a))→Rn key N (kas_place p k f l r) fun m=>m ≤ k∧(∀ a,a < m→¬ key k < key (Pv p a))∧∀ a,m ≤ a→a < k→key k < key (Pv p a)
  | 0,l,r,lr,rk,rf,lo,hi=>⟨by omega,lo,fun a h1 h2=>hi a (by omega) h2⟩
  | f + 1, l, r, lr, rk, rf, lo, hi => by
    unfold kas_place
    by_cases c : l ≥ r
    · rw [if_pos c]
      exact ⟨by omega,lo,fun a h1 h2=>hi a (by omega) h2⟩
    · rw [if_neg c]
      show _ < N ∧ _ < N ∧ Rn key N _ _
      rw [pv_getD, pv_getD]
      refine ⟨h.lt hk, h.lt (by omega), ?_⟩
      rw [h.tl k (Nat.le_refl _) hk]
      have mono:∀ a b,a ≤ b→b < k→key (Pv p a) ≤ key (Pv p b):=fun a b hab hb=>by
        by_cases e : a = b
        · rw [e]
          exact Int.le_refl _
        · rcases ha a b (by omega) hb with x | x <;> omega
      by_cases d : key k < key (Pv p ((l + r) / 2))
      · simp only [decide_eq_true d, ↓reduceIte]
        refine place_ok h ha hk f l ((l + r) / 2) (by omega) (by omega) (by omega) lo fun a h1 h2=>?_
        have := mono _ _ h1 h2
        omega
      · simp only [decide_eq_false d,Bool.false_eq_true,↓reduceIte]
        refine place_ok h ha hk f ((l + r) / 2 + 1) r (by omega) rk (by omega) (fun a h1=>?_) hi
        have := mono a ((l + r) / 2) (by omega) (by omega)
        omega
theorem bin_ok:∀ (f:Nat) {p:Array Nat} {k:Nat},Stp N p k→As key p k→k + f = N→Rn key N (kas_bin f p k) fun p'=>Stp N p' N∧As key p' N
  | 0, p, k, h, ha, e => by
    have : k = N := by omega
    subst this
    exact ⟨h, ha⟩
  | f + 1, p, k, h, ha, e => by
    have hk : k < N := by omega
    unfold kas_bin
    refine Rn.bind (Rn.mono ?_ (place_ok h ha hk k 0 k (Nat.zero_le _) (Nat.le_refl _) (by omega) (fun a h1=>by omega) fun a h1 h2=>by omega))
    intro m ⟨mk, lo, hi⟩
    have hs : k < p.size := by rw [h.sz]; exact hk
    have at' := pv_bub hs (d := k - m) (by omega)
    have e1 : k - (k - m) = m := by omega
    rw [e1] at at'
    have en := h.tl k (Nat.le_refl _) hk
    rw [en] at at'
    refine bin_ok f ⟨by rw [bubble_size,h.sz],fun a h1 h2=>?_,fun a h1=>?_,by omega⟩ (fun a b hab hb=>?_) (by omega)
    · rw [at', if_neg (by omega), if_neg (by omega)]
      exact h.tl a (by omega) h2
    · rw [at']
      split
      · omega
      · split
        · have := h.hd (a - 1) (by omega)
          omega
        · have := h.hd a (by omega)
          omega
    · rw [at', at']
      by_cases ca : a = m
      · rw [if_pos ca, if_neg (by omega), if_pos (by omega)]
        exact .inl (hi (b - 1) (by omega) (by omega))
      · rw [if_neg ca]
        by_cases cb : b = m
        · rw [if_pos cb, if_neg (by omega)]
          have := lo a (by omega)
          have l := h.hd a (by omega)
          by_cases d : key (Pv p a) < key k
          · exact .inl d
          · exact .inr ⟨by omega, l⟩
        · rw [if_neg cb]
          by_cases c1 : m < a
          · rw [if_pos (by omega), if_pos (by omega)]
            exact ha _ _ (by omega) (by omega)
          · rw [if_neg (by omega)]
            by_cases c2 : m < b
            · rw [if_pos (by omega)]
              exact ha _ _ (by omega) (by omega)
            · rw [if_neg (by omega)]
              exact ha a b hab (by omega)
theorem pv_rng {N k:Nat} (h:k < N):Pv (List.toArray (List.range N)) k = k:=by
  unfold Pv
  simp [h]
theorem sort_ok (hN:1 ≤ N):Rn key N (kas_sort N) fun p=>Stp N p N∧As key p N:=by
  unfold kas_sort
  refine Rn.bind (Rn.mono ?_ (count_ok (p:=List.toArray (List.range N)) ⟨by simp,fun k _ h2=>pv_rng h2,fun k hk=>by
    have : k = 0 := by omega
    subst this
    rw [pv_rng (by omega)]
    omega, hN⟩ hN))
  rintro ⟨m, p⟩ ⟨h, ha, m1⟩
  have h : Stp N p m := h
  have m1 : 1 ≤ m := m1
  show Rn key N (if m < N then kas_bin (N - max m 1) p (max m 1) else .ret p) _
  have le := h.le
  by_cases c : m < N
  · rw [if_pos c, Nat.max_eq_left m1]
    exact bin_ok (N - m) h ha (by omega)
  · rw [if_neg c]
    have : m = N := by omega
    subst this
    exact ⟨h, ha⟩
end
end Lw
end
section
set_option Elab.async false
set_option linter.all false
set_option maxRecDepth 100000
set_option maxHeartbeats 4000000
namespace Lw
open PySem PySem.Spec PySem.W PyProof.Rows L2
def Stb (key:Nat→Int) (n:Nat) (p:List Nat):Prop:=p.length = n∧(∀ i ∈ p,i < n)∧p.Pairwise (Lt key)
def Kp (a:Addr) (h h':Heap):Prop:=∀ b o,b ≠ a→h.get? b = some o→h'.get? b = some o
def Ks (key:Nat→Int) (ks:List Value):Prop:=∀ i k,ks[i]? = some k→∃ t,k = Value.int (key i) t
theorem Ks.snoc {key:Nat→Int} {ks:List Value} {t:Tok} (h:Ks key ks):Ks key (ks ++ [Value.int (key ks.length) t]):=fun i k e=>by
  rw [List.getElem?_append] at e
  split at e
  · exact h i k e
  · rename_i c
    cases q : i - ks.length with
    | zero =>
      rw [q] at e
      have e:Value.int (key ks.length) t = k:=by simpa using e
      have : i = ks.length := by omega
      rw [this]
      exact ⟨t, e.symm⟩
    | succ m =>
      rw [q] at e
      simp at e
def outL (vs:List Value) (p:List Nat):List Value:=p.map fun i=>vs.getD i Value.none
theorem outL_rng (vs:List Value):outL vs (List.range vs.length) = vs:=by
  refine List.ext_getElem (by simp [outL]) fun i h1 h2 => ?_
  simp [outL, h2]
theorem stb_rng {key:Nat→Int} {n:Nat} (h:n < 2):Stb key n (List.range n):=by
  refine ⟨List.length_range,fun i hi=>List.mem_range.mp hi,?_⟩
  match n, h with
  | 0, _ => exact .nil
  | 1, _ => exact List.pairwise_singleton _ _
theorem stb_of {key:Nat→Int} {n:Nat} {p:Array Nat} (h:Stp n p n) (ha:As key p n):Stb key n p.toList:=by
  have pv:∀ i (hi:i < p.toList.length),p.toList[i] = Pv p i:=fun i hi=>by
    have hi' : i < p.size := by simpa using hi
    unfold Pv
    simp [hi']
  refine ⟨by rw [Array.length_toList,h.sz],fun i hi=>?_,List.pairwise_iff_getElem.mpr fun i j hi hj hij=>?_⟩
  · obtain ⟨k, hk, rfl⟩ := List.getElem_of_mem hi
    rw [pv k hk]
    exact h.lt (by rw [Array.length_toList,h.sz] at hk; exact hk)
  · rw [pv i hi, pv j hj]
    exact ha i j hij (by rw [Array.length_toList,h.sz] at hj; exact hj)
section
variable {prog:Program} {w:World} {A:Around} {E:Value→Shared→Prop} {s:Shared} {a kS:Addr} {vs:List Value}
theorem tail_at {st:SortSt} {e e1:Nat} {ks out:List Value} {P:PySem.Fin→Shared→Prop} (hne:kS ≠ a) (hk:s.heap.get? kS = some (seqObj "list" (List.toArray ks) e)) (ha:s.heap.get? a = some (seqObj "list" #[] e1))
    (hout:(arrOf st).map (·.2) = List.toArray out) (hz:out.length < 64) (hkz:ks.length < 64) (hf:failedOf st = none)
    (h:∀ h' n,(∀ b o,b ≠ a→b ≠ kS→s.heap.get? b = some o→h'.get? b = some o)→h'.get? a = some (seqObj "list" (List.toArray out) n)→P (.done (.ret .none)) { s with heap:=h' }) :
    wpAny (model prog w) A (ksk_tail a false e1 (.ref kS) st) P E s:=by
  have s1:=Heap.SameBut.update s.heap kS (Obj.mapSeq fun _=>(#[]:Array Value))
  have ha1:(s.heap.update kS (Obj.mapSeq fun _=>(#[]:Array Value))).get? a = some (seqObj "list" #[] e1):=(s1.2 a (Ne.symm hne)).trans ha
  have s2:=Heap.SameBut.update (s.heap.update kS (Obj.mapSeq fun _=>(#[]:Array Value))) a (Obj.mapSeq fun _=>List.toArray out)
  obtain ⟨c2,hc2⟩:∃ c2,((s.heap.update kS (Obj.mapSeq fun _=>(#[]:Array Value))).update a (Obj.mapSeq fun _=>List.toArray out)).get? a = some (seqObj "list" (List.toArray out) c2):=⟨_,get?_update_seq ha1 fun _=>List.toArray out⟩
  unfold ksk_tail
  try dsimp only
  rw [hout]
  refine wpAny_bind (listUpdate_at hk rfl ?_ (by rw [List.size_toArray,sizeLine_eq]; omega) (Nat.zero_le _))
  refine wpAny_bind (wpAny_letGo ?_)
  refine wpAny_bind (seqEpoch_at ha1 rfl ?_)
  refine wpAny_bind (listUpdate_at ha1 rfl ?_ (Nat.zero_le _) (by show (List.toArray out).size ≤ _; rw [List.size_toArray,sizeLine_eq]; omega))
  rw [hf]
  simp only [bne_self_eq_false,Bool.false_eq_true,if_false]
  exact wpAny_pure (h _ c2 (fun b o n1 n2 q=>(s2.2 b n1).trans ((s1.2 b n2).trans q)) hc2)
theorem end_at {key:Nat→Int} {e e1:Nat} {ks:List Value} {P:PySem.Fin→Shared→Prop} (hne:kS ≠ a) (hk:s.heap.get? kS = some (seqObj "list" (List.toArray ks) e)) (ha:s.heap.get? a = some (seqObj "list" #[] e1)) (hl:ks.length = vs.length) (h64:vs.length < 64) (hks:Ks key ks)
    (h:∀ h' n p,Stb key vs.length p→(∀ b o,b ≠ a→b ≠ kS→s.heap.get? b = some o→h'.get? b = some o)→h'.get? a = some (seqObj "list" (List.toArray (outL vs p)) n)→P (.done (.ret .none)) { s with heap:=h' }) :
    wpAny (model prog w) A (ksk_end a false vs.toArray e1 (.ref kS) (List.toArray ks)) P E s:=by
  unfold ksk_end
  try dsimp only
  simp only [Bool.false_eq_true, if_false]
  by_cases h2 : vs.length < 2
  · have h2':vs.toArray.size < 2:=by rwa [List.size_toArray]
    rw [if_pos h2', if_pos h2']
    refine wpAny_bind (wpAny_pure ?_)
    rw [StateT.run_pure]
    refine wpAny_bind (wpAny_pure ?_)
    try dsimp only
    refine tail_at (out:=outL vs (List.range vs.length)) hne hk ha ?_ (by rw [outL_rng]; exact h64) (by omega) rfl (fun h' n=>h h' n _ (stb_rng h2))
    rw [outL_rng]
    show ((List.toArray ks).zip vs.toArray).map (·.2) = _
    refine Array.ext (by simp [hl]) fun i h1 h2 => ?_
    simp
  · have h2':¬ vs.toArray.size < 2:=by rwa [List.size_toArray]
    rw [if_neg h2', if_neg h2']
    refine wpAny_bind (kas_kind (T:=.type "int") (by omega) (fun v hv=>?_) rfl rfl ?_)
    · obtain ⟨i, hi, rfl⟩ := List.getElem_of_mem hv
      obtain ⟨t, e⟩ := hks i _ (List.getElem?_eq_getElem hi)
      rw [e]
      exact .now
    · refine wpAny_bind (wpAny_mono (kat_run (E:=E) (Q:=fun st' s'=>s' = s∧∃ p:Array Nat,Stb key vs.length p.toList∧(arrOf st').map (·.2) = List.toArray (outL vs p.toList)∧failedOf st' = none)
        (G:=fun p s'=>s' = s∧Stb key vs.length p.toList) hl (by omega) h64 (fun p' st' s' a1 a2 a3 ⟨a4,a5⟩=>⟨a4,p',a5,kat_snds hl a2,a3⟩) ?_) (fun r s' hq=>?_) fun _ _ x=>x)
      · refine Rn.wp (key:=key) (n:=vs.length) (fun i j hi hj C c=>?_) (Rn.mono (fun p hp=>⟨rfl,stb_of hp.1 hp.2⟩) (sort_ok (by omega)))
        unfold kas_ask
        have gi:∀ i,i < vs.length→∃ t,ks.getD i Value.none = .int (key i) t:=fun i hi=>by
          have hi' : i < ks.length := by omega
          obtain ⟨t,e⟩:=hks i _ (List.getElem?_eq_getElem hi')
          exact ⟨t,by rw [List.getD_eq_getElem?_getD,List.getElem?_eq_getElem hi',Option.getD_some,e]⟩
        obtain ⟨t1, e1⟩ := gi i hi
        obtain ⟨t2, e2⟩ := gi j hj
        rw [e1, e2]
        exact kat_lt_int c
      · obtain ⟨rfl, p, hs, ho, hf⟩ := hq
        obtain ⟨⟨⟩, st'⟩ := r
        try dsimp only
        exact tail_at hne hk ha ho (by unfold outL; rw [List.length_map,hs.1]; exact h64) (by omega) hf fun h' n=>h h' n _ hs
theorem keyed {key:Nat→Int} {f:Value} {n:Nat} {P:PySem.Fin→Shared→Prop} (ho:s.heap.get? a = some (seqObj "list" vs.toArray n)) (h64:vs.length < 64)
    (hk:∀ (i:Nat) (v:Value) (h1:Heap) (t1:Nat),vs[i]? = some v→Kp a s.heap h1→∀ Q:Value→Shared→Prop,(∀ h2 t2 t,(∀ b o,h1.get? b = some o→h2.get? b = some o)→Q (.int (key i) t) { s with heap:=h2,toks:=t2 }) →
      wpAny (model prog w) A (call f [v]) Q (fun _ _=>False) { s with heap:=h1,toks:=t1 })
    (h:∀ h' t n p,Stb key vs.length p→Kp a s.heap h'→h'.get? a = some (seqObj "list" (List.toArray (outL vs p)) n)→P (.done (.ret .none)) { s with heap:=h',toks:=t }) :
    wpAny (model prog w) A (ksk_tree a f false) P E s := by
  have al : a < s.heap.objs.size := Heap.lt_size ho
  have s1:=Heap.SameBut.update s.heap a (Obj.mapSeq fun _=>(#[]:Array Value))
  obtain ⟨e1,ho1⟩:∃ e1,(s.heap.update a (Obj.mapSeq fun _=>(#[]:Array Value))).get? a = some (seqObj "list" #[] e1):=⟨_,get?_update_seq ho fun _=>#[]⟩
  have hkS:((s.heap.update a (Obj.mapSeq fun _=>(#[]:Array Value))).push (seqObj "tuple" vs.toArray 0)).objs.size = s.heap.objs.size + 1:=by rw [size_push',Heap.size_update]
  unfold ksk_tree
  refine wpAny_bind (listItems_at ho rfl ?_)
  refine wpAny_bind (listUpdate_at ho rfl ?_ (by rw [List.size_toArray,sizeLine_eq]; omega) (Nat.zero_le _))
  refine wpAny_bind (seqEpoch_at ho1 rfl ?_)
  refine wpAny_bind (wpAny_newTuple ?_ (by show vs.length ≤ _; rw [sizeLine_eq]; omega))
  refine wpAny_bind (wpAny_newList ?_ (Nat.zero_le _))
  refine wpAny_holding ?_
  have kne:((s.heap.update a (Obj.mapSeq fun _=>(#[]:Array Value))).push (seqObj "tuple" vs.toArray 0)).objs.size ≠ a:=by rw [hkS]; exact Nat.ne_of_gt (Nat.lt_succ_of_lt al)
  have kk:=Heap.get?_push_size ((s.heap.update a (Obj.mapSeq fun _=>(#[]:Array Value))).push (seqObj "tuple" vs.toArray 0)) (o:=seqObj "list" #[] 0) rfl
  have ka:(((s.heap.update a (Obj.mapSeq fun _=>(#[]:Array Value))).push (seqObj "tuple" vs.toArray 0)).push (seqObj "list" #[] 0)).get? a = some (seqObj "list" #[] e1):=Heap.get?_push_of_some _ (Heap.get?_push_of_some _ ho1)
  have kp:Kp a s.heap (((s.heap.update a (Obj.mapSeq fun _=>(#[]:Array Value))).push (seqObj "tuple" vs.toArray 0)).push (seqObj "list" #[] 0)):=fun b o ne e =>
    Heap.get?_push_of_some _ (Heap.get?_push_of_some _ ((s1.2 b ne).trans e))
  have kold:s.heap.objs.size ≤ ((s.heap.update a (Obj.mapSeq fun _=>(#[]:Array Value))).push (seqObj "tuple" vs.toArray 0)).objs.size:=by rw [hkS]; exact Nat.le_succ _
  show wpAny (model prog w) A (ksk_rest a f false vs.toArray e1 (.ref ((s.heap.update a (Obj.mapSeq fun _=>(#[]:Array Value))).push (seqObj "tuple" vs.toArray 0)).objs.size)) P E { s with heap:=((s.heap.update a (Obj.mapSeq fun _=>(#[]:Array Value))).push (seqObj "tuple" vs.toArray 0)).push (seqObj "list" #[] 0) }
  generalize ((s.heap.update a (Obj.mapSeq fun _=>(#[]:Array Value))).push (seqObj "tuple" vs.toArray 0)).push (seqObj "list" #[] 0) = g at kk ka kp
  generalize ((s.heap.update a (Obj.mapSeq fun _=>(#[]:Array Value))).push (seqObj "tuple" vs.toArray 0)).objs.size = kS at kk kne kold
  unfold ksk_rest
  refine wpAny_bind (wpAny_rule ?_)
  first
    | rw [List.forIn_toArray]
    | (rw [← Array.forIn_toList]; simp only [List.toList_toArray])
    | rw [← Array.forIn_toList]
  refine wpAny_bind (ksk_fold (fun i s'=>∃ h' t ks e,s' = { s with heap:=h',toks:=t }∧Kp a s.heap h'∧h'.get? a = some (seqObj "list" #[] e1)∧h'.get? kS = some (seqObj "list" (List.toArray ks) e)∧ks.length = i∧Ks key ks) vs 0 _ ⟨g,s.toks,[],0,rfl,kp,ka,kk,rfl,fun i k e=>by simp at e⟩ (fun j x s' hx ⟨h',t,ks,e,es,k1,k2,k3,k4,k5⟩=>?_) fun s' ⟨h',t,ks,e,es,k1,k2,k3,k4,k5⟩=>?_)
  · subst es
    rw [Nat.zero_add] at k4
    refine wpAny_bind (wpAny_attempt (wpAny_mono (hk j x h' t hx k1 (fun k s''=>∃ h2 t2 tk,k = .int (key j) tk∧s'' = { s with heap:=h2,toks:=t2 }∧∀ b o,h'.get? b = some o→h2.get? b = some o) fun h2 t2 tk kk=>⟨h2,t2,tk,rfl,rfl,kk⟩) (fun k s'' hq=>?_) fun _ _ x=>x.elim))
    obtain ⟨h2, t2, tk, rfl, rfl, kk2⟩ := hq
    have jl:j < vs.length:=(List.getElem?_eq_some_iff.mp hx).1
    have ea:(List.toArray ks).push (Value.int (key j) tk) = List.toArray (ks ++ [Value.int (key j) tk]):=by simp
    have s3:=Heap.SameBut.update h2 kS (Obj.mapSeq (·.push (Value.int (key j) tk)))
    obtain ⟨c2,hc2⟩:∃ c2,(h2.update kS (Obj.mapSeq (·.push (Value.int (key j) tk)))).get? kS = some (seqObj "list" (List.toArray (ks ++ [Value.int (key j) tk])) c2):=⟨_,by rw [← ea]; exact get?_update_seq (kk2 _ _ k3) (·.push (Value.int (key j) tk))⟩
    try dsimp only
    refine wpAny_bind (listUpdate_at (kk2 _ _ k3) rfl ?_ (by rw [List.size_toArray,sizeLine_eq]; omega) (Nat.le_trans (Nat.le_of_eq (Array.size_push ..)) (by rw [List.size_toArray,sizeLine_eq]; omega)))
    refine wpAny_pure ⟨rfl,_,t2,ks ++ [Value.int (key j) tk],c2,rfl,fun b o ne q=>(s3.2 b ?_).trans (kk2 _ _ (k1 b o ne q)),(s3.2 a (Ne.symm kne)).trans (kk2 _ _ k2),hc2,by rw [List.length_append,k4]; simp,?_⟩
    · intro e
      exact absurd (Heap.lt_size q) (by rw [e]; exact Nat.not_lt.mpr kold)
    · have := k5.snoc (t := tk)
      rwa [k4] at this
  · subst es
    rw [Nat.zero_add] at k4
    refine wpAny_bind (listItems_at k3 rfl ?_)
    refine end_at (key:=key) kne k3 k2 k4 h64 k5 fun h2 n2 p hp kk2 hc=>h h2 t n2 p hp (fun b o ne q=>kk2 b o ne ?_ (k1 b o ne q)) hc
    intro e
    exact absurd (Heap.lt_size q) (by rw [e]; exact Nat.not_lt.mpr kold)
theorem sortedK {key:Nat→Int} {f l:Addr} {Q:Value→Shared→Prop} (hl:s.heap.IsList l vs.toArray) (h64:vs.length < 64)
    (hk:∀ (i:Nat) (v:Value) (h1:Heap) (t1:Nat),vs[i]? = some v→(∀ b o,s.heap.get? b = some o→h1.get? b = some o)→∀ Q:Value→Shared→Prop,(∀ h2 t2 t,(∀ b o,h1.get? b = some o→h2.get? b = some o)→Q (.int (key i) t) { s with heap:=h2,toks:=t2 }) →
      wpAny (model prog w) A.in1.in1 (call (.ref f) [v]) Q (fun _ _=>False) { s with heap:=h1,toks:=t1 })
    (h:∀ D h' t n p,s.heap.objs.size ≤ D→Stb key vs.length p→(∀ b o,s.heap.get? b = some o→h'.get? b = some o)→h'.get? D = some (seqObj "list" (List.toArray (outL vs p)) n)→Q (.ref D) { s with heap:=h',toks:=t }) :
    wpAny (model prog w) A (call (.builtin "sorted") [.ref l] [(Str.ofString "key",.ref f)]) Q E s:=by
  refine call_function_entry_kw kind_sorted plain_sorted entry_sorted (ksk_s1 _ _) ?_
  unfold Builtin.«sorted»
  refine wpAny_bind (m:=checkCount "sorted" 1 1 _) (wpAny_pure ?_)
  refine wpAny_bind (collect_list hl ?_ (by rw [sizeLine_eq]; omega))
  refine wpAny_bind (wpAny_newList ?_ (by rw [sizeLine_eq]; omega))
  have hsz:((s.heap.push (seqObj "list" #[] 0)).update s.heap.objs.size (Obj.mapSeq (· ++ vs.toArray))).objs.size = s.heap.objs.size + 1:=by
    rw [Heap.size_update, size_push']
  have hoL:(((s.heap.push (seqObj "list" #[] 0)).update s.heap.objs.size (Obj.mapSeq (· ++ vs.toArray))).push (seqObj "list" vs.toArray 0)).get? (s.heap.objs.size + 1) = some (seqObj "list" vs.toArray 0):=by
    rw [← hsz]; exact Heap.get?_push_size _ rfl
  have keep:∀ b o,s.heap.get? b = some o→(((s.heap.push (seqObj "list" #[] 0)).update s.heap.objs.size (Obj.mapSeq (· ++ vs.toArray))).push (seqObj "list" vs.toArray 0)).get? b = some o:=fun b o q=>by
    have hlt : b < s.heap.objs.size := Heap.lt_size q
    rw [Heap.get?_push_ne _ _ _ (by rw [hsz]; exact Nat.ne_of_lt (Nat.lt_succ_of_lt hlt)),Heap.get?_update_ne _ _ _ _ (Nat.ne_of_lt hlt),Heap.get?_push_ne _ _ _ (Nat.ne_of_lt hlt)]
    exact q
  show wpAny _ _ _ _ _ { s with heap:=((s.heap.push (seqObj "list" #[] 0)).update s.heap.objs.size (Obj.mapSeq (· ++ vs.toArray))).push (seqObj "list" vs.toArray 0) }
  rw [hsz]
  have ne:∀ b o,s.heap.get? b = some o→b ≠ s.heap.objs.size + 1:=fun b o e=>Nat.ne_of_lt (Nat.lt_succ_of_lt (Heap.lt_size e))
  refine wpAny_bind (wpAny_holding (wpAny_call_entry_kw slot_list_sort ⟨_,hoL,rfl⟩ entry_list_sort ?body (ksk_l1 _ _)))
  case body =>
    show wpAny (model prog w) A.in1.in1 (Builtin.«list.sort» ⟨[.ref (s.heap.objs.size + 1)],[(Str.ofString "key",.ref f)]⟩) _ _ _
    rw [ksk_t1]
    refine keyed (s:={ s with heap:=((s.heap.push (seqObj "list" #[] 0)).update s.heap.objs.size (Obj.mapSeq (· ++ vs.toArray))).push (seqObj "list" vs.toArray 0) }) (key:=key) hoL h64 (fun i v h1 t1 hv k Q hq=>hk i v h1 t1 hv (fun b o e=>k b o (ne b o e) (keep b o e)) Q hq) fun h' t n p hp k hD=>?_
    exact ⟨_,rfl,wpAny_pure ⟨_,rfl,h _ h' t n p (Nat.le_succ _) hp (fun b o e=>k b o (ne b o e) (keep b o e)) hD⟩⟩
end
abbrev lamB (v:Str) (p1 p2 p3:Pos):Expr:=.Subscript (.Name v p1) (.Constant (.int 0) 0 p2) p3
abbrev lamP (v:Str) (p:Pos):Arguments:={ posonlyargs:=[],args:=[{ arg:=v,annotation:=none,pos:=p }],vararg:=none,kwonlyargs:=[],kw_defaults:=[],kwarg:=none,defaults:=[] }
abbrev lamS (v:Str):Scope:={ kind:=.function,names:=[(v,.local)],isGenerator:=false,isCoroutine:=false,more:=[] }
section
variable {prog:Program} {w:World} {A:Around} {E:Value→Shared→Prop} {s:Shared}
theorem lam_call {v:Str} {p1 p2 p3 p4:Pos} {name qual:Str} {pm ctv:Value} {c f a:Addr} {l:List Value} {x:Value} {Q:Value→Shared→Prop}
    (hroom:A.depth < recursionLimit) (ho:s.heap.get? f = some (kla_obj name qual (lamP v p4) (lamB v p1 p2 p3) (lamS v) [] pm c ctv)) (hcd:s.heap.CodeRec (.ref c) qual) (hnl:s.heap.NoLimit)
    (hd:(v == ("__debug__":Str)) = false) (hb:bindArgs (kla_fn name qual (lamP v p4) (lamB v p1 p2 p3) (lamS v) [] pm (.ref c) ctv) ⟨[.ref a],[]⟩ = pure [(v,.ref a)])
    (ht : IsTup s.heap a l.toArray) (hx : l[0]? = some x)
    (h:∀ h' t,(∀ b o,s.heap.get? b = some o→h'.get? b = some o)→Q x { s with heap:=h',toks:=t }) :
    wpAny (model prog w) A (call (.ref f) [.ref a]) Q E s:=by
  refine wpAny_call (kla_callFunE hroom ho rfl rfl rfl rfl hcd ?_)
  show wpAny (model prog w) A.in1 (bindArgs (kla_fn name qual (lamP v p4) (lamB v p1 p2 p3) (lamS v) [] pm (.ref c) ctv) ⟨[.ref a],[]⟩) _ _ _
  rw [hb]
  have lk : (lamS v).names.lookup v = some .local := by
    show List.lookup v [(v, NameKind.local)] = _
    rw [List.lookup_cons, beq_self_eq_true]
  refine wpAny_pure (wpAny_newFunctionEnv (fun y hy=>?_) (fun y hy=>?_) (fun h1 hns hsb=>⟨hnl.fresh _ hsb,?_⟩) rfl)
  · obtain rfl : y = (v, .local) := List.mem_singleton.mp hy
    exact fun z => nomatch z
  · obtain rfl : y = (v, .ref a) := List.mem_singleton.mp hy
    exact lk
  have hk1:∀ b o,s.heap.get? b = some o→h1.get? b = some o:=fun b o e=>hsb.extBut b o (Nat.ne_of_lt (Heap.lt_size e)) (Heap.get?_push_of_some _ e)
  show codeAny _ _ (.expr (lamB v p1 p2 p3) (envX qual (lamS v) s.heap.objs.size f (.ref c) [])) _ _
  refine kla_codeExpr (Subscript_ ?_)
  rw [eval_Name _ _ _ hd]
  refine wpAny_bind (wpAny_standAt (wpAny_loadName_local rfl lk hns (v:=.ref a) ?_ ?_))
  · show List.lookup v [(v, Value.ref a)] = _
    rw [List.lookup_cons, beq_self_eq_true]
  · have ht1 : IsTup h1 a l.toArray := by
      obtain ⟨o, e1, e2⟩ := ht
      exact ⟨o, hk1 _ _ e1, e2⟩
    have l0:0 < l.length:=(List.getElem?_eq_some_iff.mp hx).1
    refine wpAny_Constant_int ?_
    refine item_tupleL (j:=0) ht1 (by decide) (by decide) (by rw [seqIndex_of (by decide) (by omega)]; rfl) hx ?_
    exact h _ _ hk1
end
def CdAt (c:Addr) (q:Str):HO:=.ext fun h=>h.CodeRec (.ref c) q
theorem cd_stay {c:Addr} {q:Str} {h1 h2:Heap} (h:h1.CodeRec (.ref c) q) (k:∀ o,h1.get? c = some o→h2.get? c = some o):h2.CodeRec (.ref c) q:=by
  obtain ⟨c', oc, vs, t, e, ho, r⟩ := h
  cases e
  exact ⟨c, oc, vs, t, rfl, k _ ho, r⟩
def TabOk (H:Hp) (P:Addr) (pos:Pos) (q:Str):Prop:=∃ ps,H P = some (.tbl ps)∧TriplesOk ps.toList∧(codeAmong pos ps.toList = none ∨ ∃ c,codeAmong pos ps.toList = some (.ref c)∧H c = some (CdAt c q))
theorem TabOk.up {H H':Hp} {P:Addr} {pos:Pos} {q:Str} (s:Same H H') (h:TabOk H P pos q):TabOk H' P pos q:=by
  obtain ⟨ps, h1, h2, h3⟩ := h
  refine ⟨ps, s _ _ h1, h2, h3.imp id ?_⟩
  rintro ⟨c, e1, e2⟩
  exact ⟨c, e1, s _ _ e2⟩
theorem triples_app {pos:Pos} {c:Value}:∀ (l:List Value),TriplesOk l→TriplesOk (l ++ [rawInt pos.line,rawInt pos.col,c]):=fun l h=>by
  fun_induction TriplesOk l with
  | case1 => exact trivial
  | case2 a t b u x rest ih => exact ih h
  | case3 => exact h.elim
def BmB (mg:Str→Option Value) (base:Heap):Prop:=∃ (bm:Addr) (ob:Obj),mg "__builtins__" = some (.ref bm)∧bm ≠ builtinsNs∧base.get? bm = some ob∧ob.cls = .type "module"∧ob.dict = some builtinsNs∧ob.data = .plain
structure TabF (K:PySem.W.Frag) (mg:Str→Option Value) (base:Heap) (cdv:Value) (P:Addr):Prop where
  c : ∃ c, cdv = .ref c ∧ codeHdIn K c P = true
  bm : BmB mg base
section
variable {X:Cx} {pins:List (Addr × Obj)} {σ:L2.St} {H:Hp} {s:Shared} {P:Addr} {lp:Pos} {q:Str}
theorem bm_at (tf:TabF X.K X.mg X.base X.env.code P) (I:Inv X pins σ H s) {ps:Array Value} (e:s.heap.get? P = some (tabObj ps)):s.heap.BuiltinsAt X.mg P:=by
  obtain ⟨bm, ob, h1, h2, h3, h4, h5, h6⟩ := tf.bm
  have e2 := I.bk _ _ h3
  refine ⟨bm,_,h1,h2,fun z=>?_,fun z=>?_,e2,h4,h5,h6⟩
  · obtain ⟨o, es, ep, ho, hd, _⟩ := I.mod.glob
    rw [z, I.bk _ _ ho] at e2
    cases e2
    rw [hd] at h6
    cases h6
  · rw [z, e] at e2
    cases e2
    cases h4
theorem tab_step {h':Heap} {t':Nat} {ps more:Array Value} {c:Addr} (I:Inv X pins σ H s) (e:H P = some (.tbl ps)) (k:Heap.ExtBut P s.heap h') (hP:h'.get? P = some (tabObj (ps ++ more))) (hc:s.heap.objs.size ≤ c) (hr:h'.CodeRec (.ref c) q) :
    Inv X pins σ (upd (upd H P (.tbl (ps ++ more))) c (CdAt c q)) { s with heap:=h',toks:=t' }:=by
  have hcn : H c = none := I.hok.fresh hc
  have Pl : P < s.heap.objs.size := I.hok.lt e
  have Pc : P ≠ c := Nat.ne_of_lt (Nat.lt_of_lt_of_le Pl hc)
  have up:∀ b o,b ≠ P→H b = some o→upd (upd H P (.tbl (ps ++ more))) c (CdAt c q) b = some o:=fun b o n x=>by
    rw [upd_ne (ne_of_none x hcn), upd_ne n]
    exact x
  have nP : ∀ b, H b = none → b ≠ P := fun b n z => by
    rw [z, e] at n
    cases n
  refine I.un ⟨fun b o x n _ _=>k b o (nP b n) x,fun b o x n _ _=>⟨o.slots,k b o (nP b n) x⟩,fun b o x n _=>?_,fun b o x _=>?_,fun b xs x=>?_,fun b o u x=>?_,fun b qs x=>?_⟩ fun b u x=>?_
  · rw [upd_ne (Nat.ne_of_lt (Nat.lt_of_lt_of_le (Heap.lt_size x) hc)),upd_ne (nP b n)]
    exact n
  · by_cases z : b = P
    · rw [z]
      exact ⟨_, hP⟩
    · exact ⟨_, k b o z x⟩
  · exact up b _ (fun z => by rw [z, e] at x; cases x) x
  · exact up b _ (fun z => by rw [z, e] at x; cases x) x
  · by_cases z : b = P
    · rw [z, e] at x
      cases x
      rw [z, upd_ne Pc, upd_same]
      exact ⟨more, rfl⟩
    · exact ⟨#[], by rw [up b _ z x]; simp⟩
  · by_cases z : b = c
    · rw [z, upd_same] at x
      cases x
      obtain ⟨c', oc, vs, t, e', ho, r⟩ := id hr
      cases e'
      rw [z]
      exact ⟨hr, ⟨oc, ho⟩, fun h1 h2 a b => cd_stay a b⟩
    · rw [upd_ne z] at x
      by_cases z2 : b = P
      · rw [z2, upd_same] at x
        cases x
        rw [z2]
        exact hP
      · rw [upd_ne z2] at x
        refine (I.hok b u x).stay (fun d v hd y=>k d v ?_ y) (fun d y=>up d _ (fun z=>by rw [z,e] at y; cases y) y) fun d xs y=>up d _ (fun z=>by rw [z,e] at y; cases y) y
        rcases hd with rfl | hd
        · exact z2
        · intro z
          rw [z, e] at hd
          cases hd
theorem lam_make {v:Str} {p1 p2 p3 p4:Pos} {Q:Value→Shared→Prop} (tf:TabF X.K X.mg X.base X.env.code P) (I:Inv X pins σ H s) (hT:TabOk H P lp (X.env.qual ++ "<lambda>"))
    (h:∀ f c H' s' pm ctv,Inv X pins σ H' s'→(∀ b o,b ≠ P→H b = some o→H' b = some o)→TabOk H' P lp (X.env.qual ++ "<lambda>")→s'.heap.get? f = some (kla_obj "<lambda>" (X.env.qual ++ "<lambda>") (lamP v p4) (lamB v p1 p2 p3) (lamS v) [] pm c ctv)→s'.heap.CodeRec (.ref c) (X.env.qual ++ "<lambda>")→Q (.ref f) s') :
    wpAny (model X.prog X.w) X.A (eval (.Lambda (lamP v p4) (lamB v p1 p2 p3) (lamS v) lp) X.env) Q X.xe s:=by
  obtain ⟨ps, e, tr, hT⟩ := hT
  obtain ⟨c, ec, hd⟩ := tf.c
  have eP : s.heap.get? P = some (tabObj ps) := I.hok P _ e
  have C : CodeHd s.heap c P := codeHd_of_K I.kIn hd
  have G:s.heap.Ns mainGlobals X.mg:=I.mod.glob.keeps I.bk
  have hcl : closureFor (lamS v) X.env = pure [] := rfl
  refine kla_eval rfl ?_
  rcases hT with hn | ⟨c', hc', ec'⟩
  · have gP : mainGlobals ≠ P := fun z => by
      obtain ⟨o, es, ep, ho, hd, _⟩ := G
      rw [z, eP] at ho
      cases ho
      cases hd
    refine kla_makeFunction hcl I.ok.glob G ec C eP tr hn gP (bm_at tf I eP) fun c' ctv h' tk k1 k2 k3 k4 k5=>?_
    have I2 := tab_step (t' := tk) I e k1 k5 k2 k4
    have I3:=I2.kept (h':=h'.push (kla_obj "<lambda>" (X.env.qual ++ "<lambda>") (lamP v p4) (lamB v p1 p2 p3) (lamS v) [] ((X.mg "__name__").getD .none) c' ctv)) (t':=tk) fun b u x=>Heap.get?_push_of_some _ x
    have hcn : H c' = none := I.hok.fresh k2
    refine h _ c' _ _ _ ctv I3 (fun b o n x=>by rw [upd_ne (ne_of_none x hcn),upd_ne n]; exact x) ⟨ps ++ #[rawInt lp.line,rawInt lp.col,.ref c'],?_,?_,.inr ⟨c',?_,upd_same⟩⟩ (Heap.get?_push_size _ rfl) ?_
    · rw [upd_ne (ne_of_none e hcn), upd_same]
    · rw [Array.toList_append]
      exact triples_app _ tr
    · rw [Array.toList_append]
      exact codeAmong_snoc _ tr hn
    · exact cd_stay k4 fun o x => Heap.get?_push_of_some _ x
  · refine kla_makeFunctionHit hcl I.ok.glob G ec C eP tr hc' (bm_at tf I eP) fun ctv h' tk k1 k2=>?_
    have I3:=I.kept (h':=h'.push (kla_obj "<lambda>" (X.env.qual ++ "<lambda>") (lamP v p4) (lamB v p1 p2 p3) (lamS v) [] ((X.mg "__name__").getD .none) c' ctv)) (t':=tk) fun b u x=>Heap.get?_push_of_some _ (k1 _ _ x)
    refine h _ c' _ _ _ ctv I3 (fun b o n x=>x) ⟨ps,e,tr,.inr ⟨c',hc',ec'⟩⟩ (Heap.get?_push_size _ rfl) ?_
    obtain ⟨y1,_,y3⟩:ObjOk X.prog X.w H s.heap c' (CdAt c' (X.env.qual ++ "<lambda>")):=I.hok c' _ ec'
    exact y3 _ _ y1 fun o x=>Heap.get?_push_of_some _ (k1 _ _ x)
def dSortK (K:PySem.W.Frag) (P:Addr) (lp:Pos) (q:Str):List V→Hp→VK→Prop:=fun us H1 Q=>∃ (l:Addr) (xs:List V) (key:Nat→Int),us = [.ref l]∧SqL K H1 l xs∧xs.length < 64 ∧
  (∀ i v,xs[i]? = some v→∃ a ys,v = .ref a∧H1 a = some (.tup (.int (key i) :: ys)))∧TabOk H1 P lp q ∧
  ∀ D H2 p,(∀ b o,b ≠ P→H1 b = some o→H2 b = some o)→H1 D = none→H2 D = some (.lst (p.map fun i=>xs.getD i .non))→TabOk H2 P lp q→Stb key xs.length p→Q (.ref D) H2
theorem pick_vals {xs:List V} {its:List Value} (rv:Vals xs its):∀ {L:List Nat},(∀ i ∈ L,i < xs.length)→Vals (L.map fun i=>xs.getD i .non) (L.map fun i=>its.getD i Value.none)
  | [], _ => .nil
  | i :: L, h => by
    have hi := h i List.mem_cons_self
    obtain ⟨v,hv,r⟩:=rv.get (List.getElem?_eq_getElem hi)
    rw [List.map_cons, List.map_cons]
    refine .cons ?_ (pick_vals rv fun j hj=>h j (List.mem_cons_of_mem _ hj))
    rw [List.getD_eq_getElem?_getD,List.getD_eq_getElem?_getD,hv,List.getElem?_eq_getElem hi]
    exact r
theorem e_sortK {v:Str} {e:Expr} {ta:TA} {p p1 p2 p3 p4 kp pos:Pos} {k:Nat} (tf:TabF X.K X.mg X.base X.env.code P) (hr:Room (k + 2) X.A) (hg:Gl X "sorted") (hm:X.mg "sorted" = none) (ha:PA X [e] ta) (hd:(v == ("__debug__":Str)) = false:=by decide)
    (hst:starEach [e] X.env = [(false,eval e X.env)]:=by rfl) (hb:∀ (nm ql:Str) (pm cd ct:Value) (a:Addr),bindArgs (PySem.W.kla_fn nm ql (lamP v p4) (lamB v p1 p2 p3) (lamS v) [] pm cd ct) ⟨[.ref a],[]⟩ = pure [(v,.ref a)]:=by intros; rfl) :
    PE X (.Call (.Name "sorted" p) [e] [⟨some "key",.Lambda (lamP v p4) (lamB v p1 p2 p3) (lamS v) lp,kp⟩] pos) (tCB (dSortK X.K P lp (X.env.qual ++ "<lambda>")) ta):=by
  intro pins s σ H Q I h
  refine wpAny_Call_Name_kw (ld_blt I hg hm boot_sorted ?_)
  refine callWith_kw (thn (ha pos pins s σ H _ I h) fun us s1 ⟨vs,H1,I1,r1,q1⟩=>?_) (by rw [hst]; rfl) (by rw [hst]; rfl)
  obtain ⟨l, xs, key, ex, hq, hl, ht, hT, q⟩ := q1
  subst ex
  obtain ⟨u, rfl, ru⟩ := r1.one
  cases (show u = Value.ref l from ru)
  refine kws_cons ?_
  refine lam_make (v:=v) (p1:=p1) (p2:=p2) (p3:=p3) (p4:=p4) tf I1 hT fun f c H2 s2 pm ctv I2 k2 hT2 hf hcd=>?_
  refine kws_nil ?_
  show wpAny (model X.prog X.w) X.A (call (.builtin "sorted") [.ref l] [(Str.ofString "key",.ref f)]) _ _ _
  obtain ⟨ps, eP, _⟩ := hT
  have hq2 : SqL X.K H2 l xs := by
    rcases hq with (h | ⟨o, h⟩) | h
    · exact .inl (.inl (k2 _ _ (fun z=>by rw [z,eP] at h; cases h) h))
    · exact .inl (.inr ⟨o,k2 _ _ (fun z=>by rw [z,eP] at h; cases h) h⟩)
    · exact .inr h
  obtain ⟨its,rv,⟨oL,nL,eL,cL,dL,xL⟩,hz⟩:=I2.list hq2
  have hlen : its.length = xs.length := rv.length.symm
  refine sortedK (key:=key) (vs:=its) ⟨oL,eL,cL,nL,xL⟩ (by omega) (fun i v' h1 t1 hv k1 Q' hQ=>?_) fun D h' t n pp hD st k' hd'=>?_
  · have hi : i < xs.length := by
      rw [← hlen]
      exact (List.getElem?_eq_some_iff.mp hv).1
    obtain ⟨a,ys,e1,e2⟩:=ht i _ (List.getElem?_eq_getElem hi)
    have g := rv.get (List.getElem?_eq_getElem hi)
    rw [e1] at g
    obtain ⟨u', hu, ru'⟩ := g
    rw [hv] at hu
    cases hu
    cases (show v' = Value.ref a from ru')
    have e3:=k2 _ _ (fun z=>by rw [z,eP] at e2; cases e2) e2
    obtain ⟨_,tl,rt,ob,ho,r2⟩:ObjOk X.prog X.w H2 s2.heap a (.tup (.int (key i) :: ys)):=I2.hok a _ e3
    cases rt with
    | cons r3 r4 =>
      obtain ⟨tk, rfl⟩ := r3
      refine lam_call (s:={ s2 with heap:=h1,toks:=t1 }) (hr.in1.in1.depth) (k1 _ _ hf) (cd_stay hcd fun o x=>k1 _ _ x) (I2.nolimit.keeps k1) hd (hb _ _ _ _ _ _) (l:=Value.int (key i) tk :: _) ⟨ob,k1 _ _ ho,r2⟩ rfl fun h2 t2 k3=>hQ h2 t2 tk k3
  · have hn2 : H2 D = none := I2.hok.fresh hD
    have hn1 : H1 D = none := by
      cases c : H1 D with
      | none => rfl
      | some o =>
        by_cases z : D = P
        · obtain ⟨ps2, e2, _⟩ := hT2
          rw [z, e2] at hn2
          cases hn2
        · rw [k2 _ _ z c] at hn2
          cases hn2
    have I3:=I2.laid (t':=t) (h':=h') (a:=D) (o:=.lst (pp.map fun i=>xs.getD i .non)) k' hD ⟨by rw [List.length_map,st.1,hlen]; exact hz,outL its pp,n,pick_vals rv fun i hi=>by rw [← hlen]; exact st.2.1 i hi,hd'⟩
    refine ⟨.ref D,_,I3,rfl,q D _ pp (fun b o nb x=>?_) hn1 upd_same (hT2.up fun b o x=>?_) (by rw [← hlen]; exact st)⟩
    · have x2 := k2 b o nb x
      rw [upd_ne (ne_of_none x2 hn2)]
      exact x2
    · rw [upd_ne (ne_of_none x hn2)]
      exact x
end
def tabP (K:PySem.W.Frag) (x:Str):Addr:=match PySem.W.tabIn K x with
  | some (_, P) => P
  | none => 0
structure TabK (K:PySem.W.Frag) (mg:Str→Option Value) (base:Heap) (x:Str):Prop where
  tb:∃ (f:Addr) (oc:Value) (od:Option Addr) (fd:FuncData) (sl:Array (Option Value)) (c:Addr),mg x = some (.ref f)∧K.lookup f = some ⟨oc,od,.func fd,sl⟩∧fd.code = .ref c∧codeHdIn K c (tabP K x) = true
  bm : BmB mg base
theorem tab_in {K:PySem.W.Frag} {x:Str} {f c P:Addr} {oc cl:Value} {od cd:Option Addr} {fd:FuncData} {sl cs:Array (Option Value)} {vs:Array Value} (h1:PySem.W.nsIn K mainGlobals x = some (some (.ref f))) (h2:K.lookup f = some ⟨oc,od,.func fd,sl⟩) (h3:fd.code = .ref c) (h4:K.lookup c = some ⟨cl,cd,.fields vs,cs⟩) (h5:(vs[11]?:Option Value) = some (.ref P)):PySem.W.tabIn K x = some (c,P):=by
  unfold PySem.W.tabIn
  rw [h1]
  dsimp only
  rw [h2]
  dsimp only
  rw [h3]
  dsimp only
  rw [h4]
  dsimp only
  rw [h5]
theorem tabP_eq {K:PySem.W.Frag} {x:Str} {c P:Addr} (h:PySem.W.tabIn K x = some (c,P)):tabP K x = P:=by
  unfold tabP
  rw [h]
section
variable {P:Program} {w:World} {K:PySem.W.Frag} {mg:Str→Option Value} {base:Heap}
theorem Dfn.calT {x:Str} {st:Stmt} {N ps:List Str} {k:Nat} {sp:Sp} (d:Dfn K mg x st ps) (tk:TabK K mg base x) (S:FnScope N ps (defScope st)) (len:∀ vs H Q E,sp vs H Q E→vs.length = ps.length)
    (hbody:∀ (f:Addr) (cdv:Value) (A:Around) (outer:List Env) (s:Shared) (H:Hp) (vs:List V) (Q:VK) (E:XK),TabF K mg base cdv (tabP K x)→Room k (A.deeper (envOfC x (defScope st) s.heap.objs.size f cdv))→sp vs H Q E →
      ∃ t,PSs (cxOf (CXE P w) P w K mg base N x (defScope st) f cdv A outer s H E).nox (defBody st) t∧t { nx:=fun _ H'=>Q .non H',rt:=Q } (start N vs) H):Cal P w K mg base x ps (k + 1) sp:=by
  obtain ⟨f, fd, F, hm, hb⟩ := d.ex
  obtain ⟨oc,od,kV,doc,pm,an,cdv,ct,osl,rfl,lk,hcd⟩:=F.ex
  obtain ⟨f',oc',od',fd',sl',c,m1,m2,m3,m4⟩:=tk.tb
  rw [hm] at m1
  cases m1
  rw [lk] at m2
  cases m2
  have tf:TabF K mg base cdv (tabP K x):=⟨⟨c,m3,m4⟩,tk.bm⟩
  exact ⟨f,_,hm,F.kp,hb,fn_of lk hcd S len fun A outer s H vs Q E hr hsp=>by
    obtain ⟨t,h,q⟩:=hbody f cdv A outer s H vs Q E tf hr hsp
    exact ⟨t, h.nox, q⟩, oc, od, osl, lk⟩
end
def OnlyT (T:Addr) (H:Hp):Prop:=H T = some (.tbl #[])∧∀ b,b ≠ T→H b = none ∨ ∃ o xs,H b = some (.frz o (.lst xs))
theorem law_callT {P:Program} {w:World} {K:PySem.W.Frag} {mg mb:Str→Option Value} {CX:CXT} {k:Nat} {fa a cc T:Addr} {fd:FuncData} {x:Str} {sp:Sp} {t:Shared} {vs:List Value} {ns:List Int}
    (KX:K.In t.heap) (glob:t.heap.Ns mainGlobals mg) (blt:t.heap.Ns builtinsNs mb) (boot:∀ x:Str,x ≠ "__name__"→mb x = bootBuiltins x) (lim:t.heap.NoLimit) (gens:t.gens = #[])
    (ca:t.heap.get? a = some { cls:=.type "list",data:=.seq vs.toArray }) (ia:IntsAre vs ns) (short:ns.length ≤ sizeLine) (room:Room k callerA)
    (C:CodeHd t.heap cc T) (eT:t.heap.get? T = some (tabObj #[])) (kT:K.lookup T = none)
    (bmT:BmB mg t.heap) (F:∀ base:Heap,K.In base→base.Ns mainGlobals mg→BmB mg base→FnOk P w K mg base CX k fa fd [x] sp) (bind:∀ (s:Shared) (u:Value),BindsTo s fd ⟨[u],[]⟩ [(x,u)])
    (want:∀ H:Hp,OnlyT T H→SqL K H a (ns.map V.int)→sp [.ref a] H (fun v _=>v = .bl true) fun _ _ _=>False)
    (fly:∀ H e s',CX [] H t (fun _ _ _=>False) e s'→False) :
    codeAny (model P w) callerA (.call (.ref fa) ⟨[.ref a],[]⟩) (fun r z=>r = .ok (.ret (.bool true))∧OldK t.heap z.heap∧z.os = t.os∧AllBare z.gens) t:=by
  have aT : a ≠ T := fun z => by
    rw [z, eT] at ca
    cases ca
  have core:∀ H:Hp,OnlyT T H→SqL K H a (ns.map V.int)→HOk P w H t.heap→(∀ b,H b ≠ none→b = a ∨ b = T)→(H a ≠ none→K.lookup a = none) →
      codeAny (model P w) callerA (.call (.ref fa) ⟨[.ref a],[]⟩) (fun r z=>r = .ok (.ret (.bool true))∧OldK t.heap z.heap∧z.os = t.os∧AllBare z.gens) t:=by
    intro H only sq hok two notK
    have nodict:∀ {b:Addr} {o:Obj} {es:Array DictEntry} {ep:Nat},t.heap.get? b = some o→o.data = .dict es ep→H b = none:=fun {b o es ep} e d=>by
      cases c : H b with
      | none => rfl
      | some u =>
        rcases two b (by rw [c]; simp) with z | z
        · subst z
          rw [ca] at e
          cases e
          cases d
        · subst z
          rw [eT] at e
          cases e
          cases d
    have nsB:∀ {b:Addr} {m:Str→Option Value},t.heap.Ns b m→(hidT t.heap H).Ns b m:=fun ⟨o,es,ep,e,d,r⟩=>⟨o,es,ep,hidT_get e (nodict e d),d,r⟩
    have kB:K.In (hidT t.heap H):=fun b o e=>hidT_get (KX b o e) (by
      cases c : H b with
      | none => rfl
      | some u =>
        rcases two b (by rw [c]; simp) with z | z
        · subst z
          rw [notK (by rw [c]; simp)] at e
          cases e
        · subst z
          rw [kT] at e
          cases e)
    have md:Mod K mg (hidT t.heap H):=⟨kB,nsB glob,⟨mb,nsB blt,boot⟩,let ⟨mc,y1,y2⟩:=lim; ⟨mc,nsB y1,y2⟩⟩
    have e0:Env0 P w K mg (hidT t.heap H) callerA [] t H:=⟨rfl,md,fun b o e=>of_hidT e,Nat.le_of_eq (hidT_size _ _),trivial,fun b hb=>absurd (show b ∈ ([]:List Addr) from hb) (by simp),hok,.of_eq gens⟩
    have bmB : BmB mg (hidT t.heap H) := by
      obtain ⟨bm, ob, h1, h2, h3, h4, h5, h6⟩ := bmT
      refine ⟨bm, ob, h1, h2, hidT_get h3 ?_, h4, h5, h6⟩
      cases c : H bm with
      | none => rfl
      | some u =>
        rcases two bm (by rw [c]; simp) with z | z
        · subst z
          rw [ca] at h3
          cases h3
          cases h6
        · subst z
          rw [eT] at h3
          cases h3
          cases h6
    refine codeAny_mono ((F _ kB (nsB glob) bmB).run callerA [] t H ⟨[.ref a],[]⟩ [.ref a] [.ref a] _ _ room e0 (bind t (.ref a)) (.cons rfl .nil) (want H only sq)) fun r z y=>?_
    cases r with
    | error e => exact (fly H e z y).elim
    | ok fl =>
      cases fl with
      | next => exact y.elim
      | brk => exact y.elim
      | cont => exact y.elim
      | ret u =>
        obtain ⟨v, H', os, bare, un, hok', rv, yes⟩ := y
        obtain rfl : v = .bl true := yes
        obtain rfl : u = Value.bool true := rv
        obtain ⟨more, em⟩ := un.tbls T #[] only.1
        have zT:z.heap.get? T = some (tabObj (#[] ++ more)):=hok' T _ em
        have kp:∀ b o,b ≠ T→t.heap.get? b = some o→z.heap.get? b = some o:=fun b o n e=>by
          rcases only.2 b n with c | ⟨ob, xs, c⟩
          · exact un.keep b o e c (fun q=>absurd (show b ∈ ([]:List Addr) from q) (by simp)) (by simp)
          · obtain ⟨g1, _⟩ := hok b _ c
            obtain ⟨g2, _⟩ := hok' b _ (un.frzs b ob _ c)
            rw [e] at g1
            cases g1
            exact g2
        refine ⟨rfl,⟨fun b o e=>?_,fun b o e=>?_⟩,os,bare⟩
        · by_cases n : b = T
          · subst n
            rw [eT] at e
            cases e
            exact .inr (.inl ⟨(C.tab eT).isCodeTable,rfl,#[],more,rfl,zT⟩)
          · exact .inl (kp b o n e)
        · by_cases n : b = T
          · exact ⟨_, n ▸ zT⟩
          · exact ⟨o, kp b o n e⟩
  have rv := vals_ints ia
  have ln := ia.length
  cases hk : K.lookup a with
  | some o =>
    have e := KX a o hk
    rw [ca] at e
    cases e
    refine core (upd (fun _=>none) T (.tbl #[])) ⟨upd_same,fun b n=>.inl (upd_ne n)⟩ (.inr ⟨_,vs.toArray,_,hk,rfl,rfl,rfl,by rw [List.size_toArray,ln]; exact short,by simpa using rv⟩) (fun b u z=>?_) (fun b z=>?_) fun z=>absurd (upd_ne aT) z
    · by_cases n : b = T
      · subst n
        rw [upd_same] at z
        cases z
        exact eT
      · rw [upd_ne n] at z
        cases z
    · by_cases n : b = T
      · exact .inr n
      · exact absurd (upd_ne n) z
  | none =>
    refine core (upd (upd (fun _=>none) a (.frz { cls:=.type "list",data:=.seq vs.toArray } (.lst (ns.map V.int)))) T (.tbl #[])) ⟨upd_same,fun b n=>?_⟩ (.inl (.inr ⟨{ cls:=.type "list",data:=.seq vs.toArray },?_⟩)) (fun b u z=>?_) (fun b z=>?_) fun _=>hk
    · rw [upd_ne n]
      by_cases n2 : b = a
      · rw [n2, upd_same]
        exact .inr ⟨_, _, rfl⟩
      · exact .inl (upd_ne n2)
    · rw [upd_ne aT, upd_same]
    · by_cases n : b = T
      · subst n
        rw [upd_same] at z
        cases z
        exact eT
      · rw [upd_ne n] at z
        by_cases n2 : b = a
        · subst n2
          rw [upd_same] at z
          cases z
          exact ⟨ca,by rw [List.length_map]; exact short,vs,_,rv,ca⟩
        · rw [upd_ne n2] at z
          cases z
    · by_cases n : b = T
      · exact .inr n
      · by_cases n2 : b = a
        · exact .inl n2
        · exact absurd ((upd_ne n).trans (upd_ne n2)) z
end Lw
end
section
set_option Elab.async false
set_option linter.all false
set_option maxRecDepth 100000
set_option maxHeartbeats 4000000
set_option autoImplicit false
namespace Lw
open PySem PySem.Spec PyProof.Rows L2 PySem.W
def sp_lawBT (x:Str) (K:PySem.W.Frag) (ns:List Int):Sp:=fun vs H Q _=>match vs with
  | [.ref a]=>SqL K H a (ns.map V.int)∧ns.length ≤ 63∧Bits ns∧H (tabP K x) = some (.tbl #[])∧∀ H',Q (.bl true) H'
  | _ => False
def sp_lawABT (x:Str) (K:PySem.W.Frag):Sp:=fun vs H Q _=>∃ (ns:List Int) (a:Addr),vs = [.ref a]∧SqL K H a (ns.map V.int)∧ns.length ≤ 63∧Bits ns∧H (tabP K x) = some (.tbl #[])∧∀ H',Q (.bl true) H'
section
variable {P:Program} {w:World} {K:PySem.W.Frag} {mg:Str→Option Value} {base:Heap}
theorem law_fnBT {x:Str} {k:Nat} {st:Stmt} {f:Addr} {fd:FuncData} (F:Fun K "law" "law" st f fd) (hm:mg "law" = some (.ref f)) (C:∀ ns,Cal P w K mg base "law" ["_law_script"] k (sp_lawBT x K ns)):FnOk P w K mg base (CXE P w) k f fd ["_law_script"] (sp_lawABT x K):=by
  refine ⟨fun vs H Q E h=>?_,fun A outer s H args us vs Q E hr he hb hv hs=>?_⟩
  · obtain ⟨ns, a, rfl, _⟩ := h
    rfl
  · obtain ⟨ns, a, rfl, h1, h2, h3, h4, h5⟩ := hs
    obtain ⟨f',fd',e1,e2,e3,G,oc',od',osl',lk'⟩:=(C ns).ex
    obtain ⟨oc,od,kV,doc,pm,an,cdv,ct,osl,_,lk,_⟩:=F.ex
    rw [hm] at e1
    cases e1
    rw [lk] at lk'
    cases lk'
    exact G.run A outer s H args us _ Q E hr he hb hv ⟨h1,h2,h3,h4,h5⟩
end
theorem walk_ofBT {l:PySem.W.OpenLaw} {n k:Nat} {q:Program} {loose:List Str} {XP:(Str→Option Value)→Heap→Prop} {YP:World→Heap→Prop} {d:DefRec} {K:Params→PySem.W.Frag} {CX:World→CXT} {sp:World→Sp} {x y:Str} {ts:List Addr}
    (hn:l.most = some n) (hn2:n ≤ sizeLine) (hdf:d.params.defaults = []) (hr:Room k callerA) (hY:∀ (w:World) (h:Heap),YP w h→(K w.params).In h)
    (hT:∀ (w:World) (h:Heap),YP w h→∀ P ∈ ts,h.get? P = some (tabObj #[]))
    (F:∀ (w:World) (mg:Str→Option Value) (fa:Addr) (h:Heap),(K w.params).In h→h.Ns mainGlobals mg→mg d.name = some (.ref fa)→(∃ c P,PySem.W.tabIn (K w.params) y = some (c,P)∧codeHdIn (K w.params) c P = true∧(K w.params).lookup P = none∧P ∈ ts)∧∃ fd:FuncData,(∀ (s:Shared) (u:Value),BindsTo s fd ⟨[u],[]⟩ [(x,u)])∧∀ base:Heap,(K w.params).In base→base.Ns mainGlobals mg→BmB mg base→FnOk l.prog w (K w.params) mg base (CX w) k fa fd [x] (sp w))
    (hsp:∀ (w:World) (H:Hp) (a:Addr) (ns:List Int),ns.length ≤ n→Bits ns→OnlyT (tabP (K w.params) y) H→SqL (K w.params) H a (ns.map V.int)→sp w [.ref a] H (fun v _=>v = .bl true) fun _ _ _=>False)
    (hCX:∀ (w:World) (H:Hp) (s:Shared) (e:Value) (s':Shared),CX w [] H s (fun _ _ _=>False) e s'→False):PySem.W.WalkO q loose XP YP l.row.toRowW d [] (fun f vs=>PySem.call f vs):=by
  refine attach_callB hn hdf fun w t₀ t mg mb fa o pm cd doc a vs ns bits G Y x1 x2 x3 x5 y1 y2 y3 x6=>?_
  have KX := hY w _ Y
  obtain ⟨⟨c,T,tb,hC,kT,mT⟩,fd,bd,ok⟩:=F w mg fa _ KX G.T.g x5
  have C : CodeHd t.heap c T := codeHd_of_K KX hC
  have eT := hT w _ Y T mT
  exact law_callT KX G.T.g G.T.b G.T.builtins G.T.nolimit x6 y1 y2 (Nat.le_trans y3 hn2) hr C eT kT G.T.bmain ok bd (fun H only sq=>hsp w H a ns y3 bits (by rw [tabP_eq tb]; exact only) sq) fun H e z=>hCX w H t e z
end Lw
end
section
set_option Elab.async false
set_option linter.all false
set_option maxRecDepth 100000
set_option maxHeartbeats 4000000
namespace Lw
open PySem PySem.Spec PyProof.Rows L2
section
variable {X : Cx}
theorem Vals.eraseIdx':∀ {xs:List V} {us:List Value} (k:Nat),Vals xs us→Vals (xs.eraseIdx k) (us.eraseIdx k)
  | _, _, _, .nil => .nil
  | _, _, 0, .cons _ t => t
  | _, _, k + 1, .cons r t => .cons r (Vals.eraseIdx' k t)
theorem er_map {α β:Type} (f:α→β):∀ (l:List α) (k:Nat),(l.map f).eraseIdx k = (l.eraseIdx k).map f
  | [], _ => rfl
  | _ :: _, 0 => rfl
  | a :: l, k + 1 => by
    show f a :: (l.map f).eraseIdx k = f a :: (l.eraseIdx k).map f
    rw [er_map f l k]
end
end Lw
end
section
set_option Elab.async false
set_option linter.all false
set_option maxRecDepth 100000
set_option maxHeartbeats 4000000
namespace Lw
open PySem PySem.Spec PyProof.Rows L2
theorem u1 {n m:Nat} (h:n + 64 < m):n + 1 < m:=by omega
structure TL (kvs:List (Key × V)) (ks:List Str) (f:Str→Int):Prop where
  key : kvs.map (·.1) = ks.map Sum.inr
  nd : ks.Nodup
  val:∀ x,valV kvs (Sum.inr x) = if x ∈ ks then some (.int (f x)) else none
  out : ∀ x, x ∉ ks → f x = 0
theorem keys_put {kvs:List (Key × V)} {ks:List Str} (h:kvs.map (·.1) = ks.map Sum.inr) (x:Str) (v:V):(putK kvs (Sum.inr x) v).map (·.1) = (dd ks x).map Sum.inr:=by
  have hany:(kvs.any fun kv=>decide (kv.1 = Sum.inr x)) = decide (x ∈ ks):=by
    have e:(kvs.any fun kv=>decide (kv.1 = Sum.inr x)) = (kvs.map (·.1)).any fun k=>decide (k = Sum.inr x):=by rw [List.any_map]; rfl
    rw [e, h, List.any_map]
    by_cases hx : x ∈ ks
    · rw [decide_eq_true hx, List.any_eq_true]
      exact ⟨x, hx, by simp⟩
    · rw [decide_eq_false hx, List.any_eq_false]
      intro y hy c
      have : y = x := by simpa using c
      exact hx (this ▸ hy)
  unfold putK dd
  rw [hany]
  by_cases hx : x ∈ ks
  · rw [decide_eq_true hx,if_pos rfl,if_pos hx,List.map_map,← h]
    refine List.map_congr_left fun kv _ => ?_
    show (if kv.1 = Sum.inr x then (kv.1,v) else kv).1 = kv.1
    split <;> rfl
  · rw [decide_eq_false hx,if_neg (by decide),if_neg hx,List.map_append,h,List.map_append]
    rfl
end Lw
end
section
set_option Elab.async false
set_option linter.all false
set_option maxRecDepth 100000
set_option maxHeartbeats 4000000
namespace Lw
open PySem PySem.Spec PyProof.Rows L2
section
variable {prog:Program} {w:World} {A:Around} {E:Value→Shared→Prop} {s:Shared}
theorem collectD {d:Addr} {vs:List (Key × Value)} {ep:Nat} {Q:List Value→Shared→Prop} (hh:A.handled = none) (hok:s.heap.DictAt (mixKind prog w) d vs ep) (lo:(d == sysModules) = false) (hn:vs.length ≤ sizeLine)
    (q:∀ xs g tk,(∀ b o,s.heap.get? b = some o→g.get? b = some o)→s.heap.objs.size < g.objs.size→xs.length = vs.length→(∀ (j:Nat) v,xs[j]? = some v→∃ k x,vs[j]? = some (k,x)∧(mixKind prog w).is k v = true)→Q xs { s with heap:=g,toks:=tk }) :
    wpAny (model prog w) A (collect (.ref d)) Q E s := by
  have la : d < s.heap.objs.size := hok.lt_size
  unfold collect
  refine wpAny_bind (wpAny_runValue (codeAny_builtin PySem.F.entry_proto_collect ?_))
  rw [Around.under_plainId PySem.F.plain_proto_collect _]
  show wpAny _ A.in1 (newList [] >>= fun l=>again (.builtin "list.__iadd__" ⟨[l,.ref d],[]⟩)) _ _ s
  refine wpAny_bind (wpAny_newObj_type (wpAny_pure ⟨plainId_quiet PySem.F.plain_list_iadd _,codeAny_builtin PySem.F.entry_list_iadd ?_⟩))
  rw [Around.under_plainId PySem.F.plain_list_iadd _]
  show wpAny _ A.in1 (Builtin.List.listExtendWith (.ref s.heap.objs.size) (.ref d) (.ref s.heap.objs.size)) _ _ _
  have hS:(s.heap.push { cls:=.type "list",data:=.seq ([]:List Value).toArray }).get? s.heap.objs.size = some { cls:=.type "list",data:=.seq #[] 0 }:=Heap.get?_push_size _ rfl
  refine PySem.W.kdl_extend (R:=wants (fun v s'=>wpAny (model prog w) A (match v with | Value.ref a=>(do let o ← load a; match o.data with | .seq xs _=>pure xs.toList | _=>unsupported "internal:collect") | _=>unsupported "internal:collect") Q E s') E) (s:={ s with heap:=s.heap.push { cls:=.type "list",data:=.seq ([]:List Value).toArray } }) (PySem.W.kdl_dict lo) hh (hok.push _) s.heap.objs.size (Nat.ne_of_gt la) (Nat.ne_of_gt la) (.ref s.heap.objs.size) 0 hS (fun h' tk acc c hk hS' it=>?_) hn
  show wpAny _ A (load s.heap.objs.size >>= _) _ _ _
  refine wpAny_bind (wpAny_load hS' (wpAny_pure (q acc.toList h' tk (fun b o e=>hk b o (Nat.ne_of_lt (Heap.lt_size e)) (Heap.get?_push_of_some _ e)) (Heap.lt_size hS') (by rw [Array.length_toList]; exact it.1) fun j v hv=>it.2 j v (by rw [← Array.getElem?_toList]; exact hv))))
theorem strs_of_get:∀ {names:List Str} {us:List Value},us.length = names.length→(∀ (j:Nat) v,us[j]? = some v→∃ x t,names[j]? = some x∧v = Value.str x t)→StrsAre us names
  | [], [], _, _ => .nil
  | [], _ :: _, h, _ => by simp at h
  | _ :: _, [], h, _ => by simp at h
  | x :: names, u :: us, h, a => by
    obtain ⟨y, t, e1, e2⟩ := a 0 u rfl
    simp at e1
    subst e1 e2
    refine .cons _ t (strs_of_get (by simpa using h) fun j v hv=>?_)
    have := a (j + 1) v (by simpa using hv)
    simpa using this
end
section
variable {X : Cx}
def dSortD:List V→Hp→VK→Prop:=fun xs H Q=>match xs with
  | [.ref d]=>∃ (kvs:List (Key × V)) (names:List Str),H d = some (.dK kvs)∧kvs.map (·.1) = names.map Sum.inr∧names.length < 64∧names.Nodup∧∀ D,H D = none→Q (.ref D) (upd H D (.lst ((srt names).map V.str)))
  | _ => False
theorem c_sortD (hc:X.calm = true:=by rfl):CallR X (.builtin "sorted") dSortD:=by
  intro pins s σ H xs us Q I r h
  match xs, h with
  | [.ref d], ⟨kvs, names, e, hk, h64, nd, q⟩ =>
    obtain ⟨u, rfl, ru⟩ := r.one
    cases (show u = Value.ref d from ru)
    obtain ⟨z, lo, vs, rel, dd⟩ := dk_of I.hok e
    have kk := rel.keys
    have kl := rel.length
    obtain ⟨o, es, ep, r1⟩ := dd
    have at':s.heap.DictAt (mixKind X.prog X.w) d vs ep:=⟨o,es,r1⟩
    have nl : kvs.length = names.length := by
      have := congrArg List.length hk
      simpa using this
    have hh := I.ok.hd hc
    refine Calls.call_function_entry kind_sorted plain_sorted entry_sorted (args_sorted1 _) ?_
    unfold Builtin.«sorted»
    refine wpAny_bind (m:=checkCount "sorted" 1 1 _) (wpAny_pure (wpAny_bind (collectD (by simp [hh]) at' lo (by omega) fun xs g tk keep lg hl hg=>?_)))
    have sa:StrsAre xs names:=strs_of_get (by omega) fun j v hv=>by
      obtain ⟨k, x, h1, h2⟩ := hg j v hv
      have h3:(vs.map (·.1))[j]? = some k:=by rw [List.getElem?_map,h1]; rfl
      rw [← kk, hk, List.getElem?_map] at h3
      cases hn : names[j]? with
      | none =>
        rw [hn] at h3
        cases h3
      | some y =>
        rw [hn] at h3
        cases h3
        rcases keyIs_shape (show keyIs (Sum.inr y) v = true from h2) with ⟨i,t,e1,_⟩ | ⟨y',t,e1,e2⟩
        · cases e1
        · cases e1
          exact ⟨y, t, rfl, e2⟩
    refine wpAny_bind (wpAny_newList ?_ (by omega))
    have hoL:(g.push (seqObj "list" xs.toArray 0)).get? g.objs.size = some (seqObj "list" xs.toArray 0):=Heap.get?_push_size _ rfl
    refine wpAny_bind (wpAny_holding (wpAny_call_entry slot_list_sort ⟨_,hoL,rfl⟩ entry_list_sort (list_sort_treeK strKind_oneLt hoL sa.keysOf (fun v1 v2 r e=>keyKind_strs (by rw [← e]; exact sa)) (by omega) fun st' a1 a2=>⟨_,rfl,wpAny_pure ⟨_,rfl,?_⟩⟩) (args_list_sort _)))
    obtain ⟨ys, b1, b2, b3⟩ := sorted_out_str sa a1 a2
    obtain ⟨n,hn⟩:=sortedHeap_at (out:=(arrOf st').map (·.2)) hoL
    have ey:ys = srt names:=inc_ext (pairwise_inc (sorted_le b3) (b2.nodup_iff.mpr nd)) (inc_srt _) fun x=>by rw [b2.mem_iff,mem_srt]
    subst ey
    have keep2:∀ b ob,s.heap.get? b = some ob→(sortedHeap (g.push (seqObj "list" xs.toArray 0)) g.objs.size xs ((arrOf st').map (·.2))).get? b = some ob:=fun b ob e=>by
      have hb := Heap.lt_size (keep b ob e)
      rw [sortedHeap_old (Nat.ne_of_lt hb) (by rw [Heap.size_push]; exact Nat.lt_succ_of_lt hb)]
      exact Heap.get?_push_of_some _ (keep b ob e)
    have I2:=I.laid (t':=tk) (h':=sortedHeap (g.push (seqObj "list" xs.toArray 0)) g.objs.size xs ((arrOf st').map (·.2))) (a:=g.objs.size) (o:=.lst ((srt names).map V.str)) keep2 (Nat.le_of_lt lg) ⟨by rw [List.length_map,b2.length_eq]; omega,((arrOf st').map (·.2)).toList,n,vals_str b1,by rw [hn]⟩
    exact ⟨.ref g.objs.size,_,I2,rfl,q _ (I.hok.fresh (Nat.le_of_lt lg))⟩
end
inductive Rch (gs : List Gm) (n : Str) : Str → Prop where
  | here : Rch gs n n
  | step {x y:Str}:Rch gs n x→y ∈ tkr x gs→Rch gs n y
end Lw
end
section
set_option Elab.async false
set_option linter.all false
set_option maxRecDepth 100000
set_option maxHeartbeats 4000000
namespace Lw
open PySem PySem.Spec PyProof.Rows L2
section
variable {X : Cx}
theorem inv_frz {pins:List (Addr × Obj)} {σ:L2.St} {H:Hp} {s:Shared} {a:Addr} {kvs:List (Key × V)} {o:Obj} (I:Inv X pins σ H s) (ha:H a = some (.dK kvs)) (ho:s.heap.get? a = some o):Inv X pins σ (upd H a (.frz o (.dK kvs))) s:=by
  have old:∀ b u,H b = some u→b ≠ a→upd H a (.frz o (.dK kvs)) b = some u:=fun b u e n=>by rw [upd_ne n]; exact e
  refine I.step (g':=s.gens) (d':=s.drawn) (t':=s.toks) (h':=s.heap) (ch:=[]) (fun _ z=>nomatch z) (fun b o _ _ _ e _=>e) (fun b o _ _ _ e _=>⟨o.slots,e⟩) (fun b u _ e n=>?_) (fun b o _ e=>⟨o,e⟩) (fun b xs e=>old b _ e ?_) (fun b ob u e=>old b _ e ?_)
    (fun b ps e=>⟨#[],by rw [old b _ e (fun z=>by rw [z,ha] at e; cases e)]; simp⟩) (fun m hm=>hm) (fun b u e=>?_) I.bare
  · rw [upd_ne (fun z => by rw [z, ha] at n; cases n)]
    exact n
  · intro z
    rw [z, ha] at e
    cases e
  · intro z
    rw [z, ha] at e
    cases e
  · have ho':∀ b c,H b = some (.own c)→upd H a (.frz o (.dK kvs)) b = some (.own c):=fun b c e=>old b _ e fun z=>by rw [z,ha] at e; cases e
    have ht':∀ b xs,H b = some (.tup xs)→upd H a (.frz o (.dK kvs)) b = some (.tup xs):=fun b xs e=>old b _ e fun z=>by rw [z,ha] at e; cases e
    by_cases hb : b = a
    · subst hb
      rw [upd_same] at e
      cases e
      exact ⟨ho,(I.hok b _ ha).stay (fun c v _ q=>q) (fun c q=>ho' c _ q) ht'⟩
    · rw [upd_ne hb] at e
      exact (I.hok b u e).stay (fun c v _ q=>q) (fun c q=>ho' c _ q) ht'
def Itd (a : Addr) (o : Obj) (names : List Str) : It :=
  ⟨fun i H=>(∃ kvs,H a = some (.frz o (.dK kvs))∧kvs.map (·.1) = names.map Sum.inr)∧i < names.length,
   fun i H v H'=>H' = H∧∃ x,names[i]? = some x∧v = .str x,
   fun i H=>(∃ kvs,H a = some (.frz o (.dK kvs))∧kvs.map (·.1) = names.map Sum.inr)∧names.length ≤ i⟩
theorem turn_keys {P:Program} {w:World} {K:PySem.W.Frag} {tg:Expr} {it a:Addr} {o:Obj} {names:List Str} {es:Array DictEntry} {ep:Nat} (ho:o.data = .dict es ep) :
    Turn P w K tg (Itd a o names) [it] it (fun i h=>h.IsKeyIter it a i names.length ep) where
  mem := by simp
  obj := fun i h Z c hc => by
    have hc : c = it := by simpa using hc
    subst hc
    obtain ⟨o, e, _, d⟩ := Z
    exact ⟨o, e, fun v z => by rw [d] at z; cases z⟩
  keep := fun i h h' Z k => by
    obtain ⟨o, e, r⟩ := Z
    exact ⟨o, k it (by simp) o e, r⟩
  item := by
    intro X hP hw hK hc i pins s σ H E I hf Z hg
    subst hP hw hK
    obtain ⟨⟨kvs, e, hk⟩, hi⟩ := hg
    obtain ⟨e0,z,lo,vs,rel,dd⟩:=(show ObjOk X.prog X.w H s.heap a (.frz o (.dK kvs)) from I.hok a _ e)
    have kk := rel.keys
    have kl := rel.length
    have nl : kvs.length = names.length := by
      have := congrArg List.length hk
      simpa using this
    obtain ⟨o', es', ep', r0, r1, r2, r3⟩ := dd
    rw [e0] at r0
    cases r0
    rw [ho] at r2
    cases r2
    have at':s.heap.DictAt (mixKind X.prog X.w) a vs ep:=⟨o,es,e0,r1,ho,r3⟩
    have vl : vs.length = names.length := by omega
    have hx:vs[i]? = some (vs[i]'(by omega)):=List.getElem?_eq_getElem (by omega)
    generalize vs[i]'(by omega) = kv at hx
    obtain ⟨k, u⟩ := kv
    have h3:(vs.map (·.1))[i]? = some k:=by rw [List.getElem?_map,hx]; rfl
    rw [← kk, hk, List.getElem?_map] at h3
    have hn:names[i]? = some names[i]:=List.getElem?_eq_getElem hi
    rw [hn] at h3
    cases h3
    have Z:s.heap.IsKeyIter it a i vs.length ep:=by rw [vl]; exact Z
    refine wpAny_pyNext_dict_item Z at' hx fun key g hkey hit sb=>⟨_,rfl,?_⟩
    refine letGo_keyiter (s' := { s with heap := g }) hit ?_
    have I1:Inv X pins σ H { s with heap:=g }:=inv_moved I (t':=s.toks) (fp:=[it]) (fun c o hc e=>sb.extBut c o (fun x=>hc (by simp [x])) e) hf
    rcases keyIs_shape (show keyIs (Sum.inr names[i]) key = true from hkey) with ⟨i',t,e1,_⟩ | ⟨y',t,e1,e2⟩
    · cases e1
    · cases e1
      refine ⟨.str names[i],H,I1,⟨t,e2⟩,⟨rfl,_,hn,rfl⟩,?_,fun b hb=>(hf b hb).1⟩
      rw [← vl]
      exact hit
  done := by
    intro X hP hw hK hc i pins s σ H E I hf Z hg
    subst hP hw hK
    obtain ⟨⟨kvs, e, hk⟩, hi⟩ := hg
    obtain ⟨e0,z,lo,vs,rel,dd⟩:=(show ObjOk X.prog X.w H s.heap a (.frz o (.dK kvs)) from I.hok a _ e)
    have kl := rel.length
    have nl : kvs.length = names.length := by
      have := congrArg List.length hk
      simpa using this
    obtain ⟨o', es', ep', r0, r1, r2, r3⟩ := dd
    rw [e0] at r0
    cases r0
    rw [ho] at r2
    cases r2
    have at':s.heap.DictAt (mixKind X.prog X.w) a vs ep:=⟨o,es,e0,r1,ho,r3⟩
    have vl : vs.length = names.length := by omega
    have Z:s.heap.IsKeyIter it a i vs.length ep:=by rw [vl]; exact Z
    refine wpAny_pyNext_dict_end (I.ok.hd hc) Z at' (List.getElem?_eq_none (by omega)) fun g kp=>⟨rfl,?_⟩
    exact inv_moved I (t':=s.toks) (fp:=[it]) (fun c o hc e=>kp c o (fun x=>hc (by simp [x])) e) hf
  self := fun _ _ _ _ _ Z h => wpAny_pyIter_keyiter Z h
def iKeys (te:TE):TI:=fun σ H R=>te σ H fun x H1=>∃ a kvs names,x = .ref a∧H1 a = some (.dK kvs)∧kvs.map (·.1) = names.map Sum.inr∧∀ o,R (Itd a o names) (upd H1 a (.frz o (.dK kvs)))
theorem pi_keys {tg l:Expr} {te:TE} (hl:PE X l te):PI X tg l (iKeys te):=by
  intro pins s σ H R I h
  refine thn (hl pins s σ H _ I h) fun v s1 ⟨x,H1,I1,r1,q1⟩=>?_
  obtain ⟨a, kvs, names, e, ea, hk, q⟩ := q1
  subst e
  cases r1
  obtain ⟨z, lo, vs, rel, dd⟩ := dk_of I1.hok ea
  have kl := rel.length
  have nl : kvs.length = names.length := by
    have := congrArg List.length hk
    simpa using this
  obtain ⟨o, es, ep, r0, r1, r2, r3⟩ := dd
  have I2 := inv_frz I1 ea r0
  have at':s1.heap.DictAt (mixKind X.prog X.w) a vs ep:=⟨o,es,r0,r1,r2,r3⟩
  refine wpAny_pyIter_dict lo at' ?_
  refine ⟨s1.heap.objs.size,[s1.heap.objs.size],_,_,_,rfl,I2.kept (t':=s1.toks) fun b o e=>Heap.get?_push_of_some _ e,turn_keys (a:=a) (names:=names) (ep:=ep) r2,⟨_,Heap.get?_push_size _ rfl,rfl,?_⟩,fun b hb=>?_,q o⟩
  · show Data.fields _ = Data.fields _
    rw [show vs.length = names.length by omega]
    rfl
  · have e : b = s1.heap.objs.size := by simpa using hb
    subst e
    exact I2.fpOk (Nat.le_refl _) (I2.hok.fresh (Nat.le_refl _))
theorem for_keys {a:Addr} {o:Obj} {kvs:List (Key × V)} {names:List Str} {g:TG} {tb:TS} {D:Ends} {σ:L2.St} {H:Hp} (hk:kvs.map (·.1) = names.map Sum.inr) (Pv:Nat→L2.St→Hp→Prop) (h0:Pv 0 σ H) (hl:∀ i σ H,Pv i σ H→H a = some (.frz o (.dK kvs)))
    (hs:∀ i x σ H,names[i]? = some x→Pv i σ H→g (.str x) σ H fun σ2 H2=>tb { D with nx:=Pv (i + 1),ct:=Pv (i + 1),bk:=D.nx } σ2 H2) (hd:∀ σ H,Pv names.length σ H→D.nx σ H) :
    ∃ W:Nat→Nat→L2.St→Hp→Prop,(∃ m,W 0 m σ H)∧∀ i m σ H,W i m σ H →
      ((Itd a o names).stop i H∧D.nx σ H) ∨ ((Itd a o names).go i H∧∃ N:L2.St→Hp→Prop,(∀ σ' H',N σ' H'→∃ m',m' < m∧W (i + 1) m' σ' H')∧∀ x H',(Itd a o names).yld i H x H'→g x σ H' fun σ2 H2=>tb { D with nx:=N,ct:=N,bk:=D.nx } σ2 H2):=by
  refine ⟨fun i m σ H=>m = names.length - i∧i ≤ names.length∧Pv i σ H,⟨names.length,by simp,Nat.zero_le _,h0⟩,?_⟩
  rintro i m σ H ⟨rfl, hi, p⟩
  have q1 := hl i σ H p
  by_cases hlt : i < names.length
  · refine .inr ⟨⟨⟨kvs,q1,hk⟩,hlt⟩,Pv (i + 1),fun σ' H' p'=>⟨names.length - (i + 1),by omega,rfl,hlt,p'⟩,fun v H' y=>?_⟩
    obtain ⟨rfl, x, hxi, rfl⟩ := y
    exact hs i x σ H' hxi p
  · have e : i = names.length := by omega
    subst e
    exact .inl ⟨⟨⟨kvs, q1, hk⟩, Nat.le_refl _⟩, hd σ H p⟩
end
end Lw
end
section
set_option Elab.async false
set_option linter.all false
set_option maxRecDepth 100000
set_option maxHeartbeats 4000000
namespace Lw
open PySem PySem.Spec PyProof.Rows L2
end Lw
end
section
set_option Elab.async false
set_option linter.all false
set_option maxRecDepth 100000
set_option maxHeartbeats 4000000
namespace Lw
open PySem PySem.Spec PyProof.Rows L2
section
variable {X : Cx}
end
end Lw
end
section
set_option Elab.async false
set_option linter.all false
set_option maxRecDepth 100000
set_option maxHeartbeats 4000000
namespace Lw
open PySem PySem.Spec PyProof.Rows L2
section
variable {X : Cx}
structure EAt (e it l:Addr) (n:Nat) (h:Heap):Prop where
  e : ∃ old, IsEnum h e it ((n : Nat) : Int) old
  a : h.IsListIter it l n
def Ite (K : PySem.W.Frag) (a : Addr) : It :=
  ⟨fun i H => ∃ xs x, SqL K H a xs ∧ xs[i]? = some x,
   fun i H v H'=>∃ t x,v = .ref t∧H t = none∧H' = upd H t (.tup [.int ((i:Nat):Int),x])∧∀ xs,SqL K H a xs→xs[i]? = some x,
   fun i H => ∃ xs, SqL K H a xs ∧ xs.length ≤ i⟩
theorem turn_enum {P:Program} {w:World} {K:PySem.W.Frag} {es:List Expr} {x1} {pos:Pos} {e it a:Addr} (hei:e ≠ it) :
    Turn P w K (.Tuple es x1 pos) (Ite K a) [e,it] e (EAt e it a) where
  mem := by simp
  obj := fun i h Z c hc => by
    have hc : c = e ∨ c = it := by simpa using hc
    rcases hc with rfl | rfl
    · obtain ⟨old, h⟩ := Z.e
      exact ⟨_, h, fun v e => by cases e⟩
    · obtain ⟨o, e, _, d⟩ := Z.a
      exact ⟨o, e, fun v z => by rw [d] at z; cases z⟩
  keep := fun i h h' Z k => by
    obtain ⟨old, he⟩ := Z.e
    obtain ⟨o, e1, r⟩ := Z.a
    exact ⟨⟨old,k e (by simp) _ he⟩,⟨o,k it (by simp) o e1,r⟩⟩
  item := by
    intro X hP hw hK hc i pins s σ H E I hf Z hg
    subst hP hw hK
    obtain ⟨xs, x, q1, e1⟩ := hg
    obtain ⟨us, r1, p1⟩ := sq_val (kd := true) I q1
    obtain ⟨u, hu, ru⟩ := r1.get e1
    obtain ⟨old, he⟩ := Z.e
    have hfr:H s.heap.objs.size = none:=I.hok.fresh (Nat.le_refl _)
    refine wpAny_pyNext_enum_item he Z.a (show s.heap.IsList a us.toArray from p1) (x:=u) (by simpa using hu) hei fun g heo hit ht hz kp=>⟨_,rfl,?_⟩
    have elt : e < s.heap.objs.size := Heap.lt_size he
    have ilt:it < s.heap.objs.size:=by obtain ⟨_,e,_⟩:=Z.a; exact Heap.lt_size e
    refine wpAny_letOwnedTupleGo_enum (s:={ s with heap:=g,toks:=s.toks + 1 }) heo fun g' z' s'=>?_
    have kp':∀ c o,c ≠ e→c ≠ it→s.heap.get? c = some o→g'.get? c = some o:=fun c o n1 n2 e=>s'.extBut _ _ n1 (kp c o n1 n2 e)
    have a5':g'.get? s.heap.objs.size = some { cls:=.type "tuple",data:=.seq #[.int i s.toks,u] }:=s'.extBut _ _ (Nat.ne_of_gt elt) ht
    have I1:Inv X pins σ (upd H s.heap.objs.size (.tup [.int i,x])) { s with heap:=g',toks:=s.toks + 1 }:=by
      refine inv_zipped I (fp:=[e,it]) (fun c o hc e=>kp' c o (fun x=>hc (by simp [x])) (fun x=>hc (by simp [x])) e) hf (Nat.le_refl _) ?_
      exact ⟨by show 2 ≤ sizeLine; decide,[.int i s.toks,u],.cons ⟨_,rfl⟩ (.cons ru .nil),⟨_,a5',rfl,_,rfl⟩⟩
    refine ⟨.ref s.heap.objs.size,_,I1,rfl,⟨_,x,rfl,hfr,rfl,fun zs hz=>by rw [sq_inj (kd:=true) I hz q1]; exact e1⟩,?_,?_⟩
    · obtain ⟨o, e2, r⟩ := hit
      exact ⟨⟨_,by have:=z'; simpa using this⟩,⟨o,s'.extBut _ _ (Ne.symm hei) e2,r⟩⟩
    · intro c hc
      have hlt : c < s.heap.objs.size := by
        have hc : c = e ∨ c = it := by simpa using hc
        rcases hc with rfl | rfl
        · exact elt
        · exact ilt
      rw [upd_ne (Nat.ne_of_lt hlt)]
      exact (hf c hc).1
  done := by
    intro X hP hw hK hc i pins s σ H E I hf Z hg
    subst hP hw hK
    obtain ⟨xs, q1, e⟩ := hg
    obtain ⟨us, r1, p1⟩ := sq_val (kd := true) I q1
    have l1 := r1.length
    obtain ⟨old, he⟩ := Z.e
    have hn : us.toArray[i]? = none := by
      simp
      omega
    refine wpAny_pyNext_enum_end (I.ok.hd hc) he Z.a (show s.heap.IsList a us.toArray from p1) hn fun g kp=>⟨rfl,?_⟩
    refine inv_moved I (fp:=[it]) (fun c o hc e=>kp c o (fun x=>hc (by simp [x])) e) ?_
    intro c hc
    exact hf c (by simp at hc ⊢; exact .inr hc)
  self := fun _ _ _ _ _ Z h => by
    obtain ⟨old, he⟩ := Z.e
    exact wpAny_pyIter_enum he h
def iEnum (K:PySem.W.Frag) (ta:TA):TI:=fun σ H R=>ta σ H fun vs H1=>match vs with
  | [.ref a] => (∃ xs, SqL K H1 a xs) ∧ R (Ite K a) H1
  | _ => False
theorem boot_enum:bootBuiltins "enumerate" = some (.type "enumerate"):=by decide +kernel
theorem pi_enum {a:Expr} {ta:TA} {p pos:Pos} {es:List Expr} {x1} {tp:Pos} (hg:Gl X "enumerate") (hm:X.mg "enumerate" = none) (ha:PA X [a] ta) (hs:starEach [a] X.env = [(false,eval a X.env)]:=by rfl) :
    PI X (.Tuple es x1 tp) (.Call (.Name "enumerate" p) [a] [] pos) (iEnum X.K ta):=by
  intro pins s σ H R I h
  refine Call_ (ld_blt I hg hm boot_enum (PyProof.Rows.callWith_type1 (thn (ha pos pins s σ H _ I h) fun us s1 ⟨vs,H1,I1,r1,q1⟩=>?_) hs rfl))
  match vs, q1 with
  | [.ref l], ⟨⟨xs, hx⟩, q⟩ =>
    obtain ⟨u, rfl, e1⟩ := vals1 r1
    cases (show u = Value.ref l from e1)
    obtain ⟨us', _, p1⟩ := sq_val (kd := true) I1 hx
    refine call_enumerate_list (show s1.heap.IsList l us'.toArray from p1) fun g Z Zi hz kp=>wpAny_pyIter_enum (s:={ s1 with heap:=g }) Z ?_
    have I2:Inv X pins σ H1 { s1 with heap:=g }:=I1.kept (t':=s1.toks) kp
    refine ⟨_,[s1.heap.objs.size + 1,s1.heap.objs.size],_,_,H1,rfl,I2,turn_enum (a:=l) (by show @Ne Nat _ _; omega),⟨⟨_,Z⟩,Zi⟩,fun c hc=>?_,q⟩
    have hc : @LE.le Nat _ s1.heap.objs.size c := by
      have hc:c = s1.heap.objs.size + 1 ∨ c = s1.heap.objs.size:=by simpa using hc
      rcases hc with h | h <;> rw [h] <;> first | exact Nat.le_refl _ | exact Nat.le_add_right _ _
    exact I1.fpOk hc (I1.hok.fresh hc)
theorem for_enum {K:PySem.W.Frag} {a:Addr} {xs:List V} {g:TG} {tb:TS} {D:Ends} {σ:L2.St} {H:Hp} (Pv:Nat→L2.St→Hp→Prop) (h0:Pv 0 σ H) (hl:∀ i σ H,Pv i σ H→SqL K H a xs)
    (hs:∀ i x t σ H,xs[i]? = some x→H t = none→Pv i σ H→g (.ref t) σ (upd H t (.tup [.int ((i:Nat):Int),x])) fun σ2 H2=>tb { D with nx:=Pv (i + 1),ct:=Pv (i + 1),bk:=D.nx } σ2 H2) (hd:∀ σ H,Pv xs.length σ H→D.nx σ H) :
    ∃ W:Nat→Nat→L2.St→Hp→Prop,(∃ m,W 0 m σ H)∧∀ i m σ H,W i m σ H →
      ((Ite K a).stop i H∧D.nx σ H) ∨ ((Ite K a).go i H∧∃ N:L2.St→Hp→Prop,(∀ σ' H',N σ' H'→∃ m',m' < m∧W (i + 1) m' σ' H')∧∀ x H',(Ite K a).yld i H x H'→g x σ H' fun σ2 H2=>tb { D with nx:=N,ct:=N,bk:=D.nx } σ2 H2):=by
  refine ⟨fun i m σ H=>m = xs.length - i∧i ≤ xs.length∧Pv i σ H,⟨xs.length,by simp,Nat.zero_le _,h0⟩,?_⟩
  rintro i m σ H ⟨rfl, hi, p⟩
  have q1 := hl i σ H p
  by_cases hlt : i < xs.length
  · have e1 : xs[i]? = some xs[i] := by simp [hlt]
    refine .inr ⟨⟨xs,_,q1,e1⟩,Pv (i + 1),fun σ' H' p'=>⟨xs.length - (i + 1),by omega,rfl,hlt,p'⟩,fun v H' y=>?_⟩
    obtain ⟨t, x, rfl, ht, rfl, y1⟩ := y
    exact hs i x t σ H (y1 xs q1) ht p
  · have e : i = xs.length := by omega
    subst e
    exact .inl ⟨⟨xs, q1, Nat.le_refl _⟩, hd σ H p⟩
end
end Lw
end
set_option maxRecDepth 100000
set_option linter.all false
namespace PySem
open Sem (wp)
namespace F
end F
theorem lz_list_keys:typeLookup (.type "list") "keys" = pure none:=by rw [typeLookup_type,builtinLookup_eq_fast]; kernel_rfl
theorem lz_keys_none_list {prog:Program} {w:World} {A:Around} {E:Value→Shared→Prop} {s:Shared} {a:Addr} {o:Obj} {xs:Array Value} {k:Nat} {Q:Option Value→Shared→Prop}
    (hx:s.heap.get? a = some o) (hc:o.cls = .type "list") (hdat:o.data = .seq xs k) (hd:o.dict = none) (hA:A.handled = none)
    (h:∀ h' tk,(∀ b o,s.heap.get? b = some o→h'.get? b = some o)→Q none { s with heap:=h',toks:=tk }) :
    wpAny (model prog w) A (getAttr? (.ref a) "keys") Q E s:=by
  obtain ⟨c, dct, dat, sl⟩ := o
  simp only at hc hdat hd
  subst hc hdat hd
  obtain ⟨hp, g, d, tk, os⟩ := s
  have hT:∀ tk',(⟨hp,g,d,tk',os⟩:Shared).TypeIs (.ref a) "list":=fun _=>⟨_,hx,rfl⟩
  have f1 := sub_AttributeError
  have f3 := F.slot_list_getattribute.lookup
  have f4 := F.slot_list_getattribute.bind (.ref a)
  have f5 := am_list_getattr_none
  unfold getAttr? getAttrBy? getAttrBy
  repeat (any_goals (first | assumption | exact hT _ | ((with_reducible show wpAny _ _ (call (Value.builtin "list.__getattribute__") _ _) _ _ _); refine call_meets F.slot_list_getattribute (hT _) am_entry_list_getattribute (F.args_list_getattribute_2 _ _) (meets_getattribute_miss_list a xs k sl "keys" _ lz_list_keys (by decide +kernel) (by size_fits)) ⟨hx,hA,fun h' tk' e hx'=>?_⟩) | wp_step))
  obtain ⟨t', u', he⟩ := hx'.there
  show wpAny _ _ (getattributeRaised _ _ _ _ _ _ _) _ _ _
  unfold getattributeRaised
  repeat (any_goals (first | assumption | wp_step))
  exact h _ _ hx'.keeps
end PySem
section
set_option Elab.async false
set_option linter.all false
set_option maxRecDepth 100000
set_option maxHeartbeats 4000000
namespace Lw
open PySem PySem.Spec PyProof.Rows L2
abbrev IsZ2 (h:Heap) (z TI TO a:Addr) (b:Bool):Prop :=
  h.get? z = some { cls:=.type "zip",data:=.fields #[rawInt a,.bool b,.bool false,.ref TI,.ref TO] }
section
variable {prog:Program} {w:World} {A:Around} {E:Value→Shared→Prop} {s:Shared}
theorem dz_entry:entryFor table "dict.update.loop" = some Builtin.«dict.update.loop»:=entryFor_of_tree (by kernel_rfl)
section
variable {K : Type} [DecidableEq K] {knd : KeyKind prog w K}
structure Dz (knd:KeyKind prog w K) (k1 k2:Bool) (z TI TO i1 i2 l1 l2 D:Addr) (xs ys:Array Value) (kvs:List (K × Value)) (h0:Heap) (i:Nat) (h:Heap):Prop where
  dd : h.DictOf knd D (kvs.take i)
  ia : ItK k1 h i1 l1 i
  ib : ItK k2 h i2 l2 i
  sx : SeK k1 h l1 xs
  sy : SeK k2 h l2 ys
  ti : IsPair h TI (.ref i1) (.ref i2)
  zz:(i = 0∧IsZip h z TI TO .none∧∃ u v,IsPair h TO u v) ∨ ∃ p q oa,IsZ2 h z TI TO p q∧h.get? p = some oa∧p ≠ z∧p ≠ i1∧p ≠ i2∧p ≠ D
  old:∀ c o,c ≠ z→c ≠ TO→c ≠ i1→c ≠ i2→c ≠ D→h0.get? c = some o→h.get? c = some o
theorem take_stored {kvs:List (K × Value)} {i:Nat} {k:K} {v:Value} (hn:(kvs.map (·.1)).Nodup) (e:kvs[i]? = some (k,v)):stored (kvs.take i) k v = kvs.take (i + 1):=by
  have hlt:i < kvs.length:=(List.getElem?_eq_some_iff.mp e).1
  have hno:(kvs.take i).any (fun kv=>kv.1 = k) = false:=by
    rw [Bool.eq_false_iff]
    intro ha
    obtain ⟨kv, hm, hk⟩ := List.any_eq_true.mp ha
    obtain ⟨j, hj⟩ := List.mem_iff_getElem?.mp hm
    have hji : j < i := by
      have := (List.getElem?_eq_some_iff.mp hj).1
      rw [List.length_take] at this
      omega
    rw [List.getElem?_take_of_lt hji] at hj
    have e1:(kvs.map (·.1))[j]? = some k:=by rw [List.getElem?_map,hj]; exact congrArg some (by simpa using hk)
    have e2:(kvs.map (·.1))[i]? = some k:=by rw [List.getElem?_map,e]; rfl
    obtain ⟨b1, c1⟩ := List.getElem?_eq_some_iff.mp e1
    obtain ⟨b2, c2⟩ := List.getElem?_eq_some_iff.mp e2
    exact (List.pairwise_iff_getElem.mp hn) j i b1 b2 hji (c1.trans c2.symm)
  unfold stored
  rw [hno, List.take_add_one, e]
  rfl
end
end
section
variable {X : Cx}
end
end Lw
end
section
set_option Elab.async false
set_option linter.all false
set_option maxRecDepth 100000
set_option maxHeartbeats 4000000
namespace Lw
open PySem PySem.Spec PyProof.Rows L2
section
variable {prog:Program} {w:World} {A:Around} {E:Value→Shared→Prop} {s:Shared}
variable {K : Type} [DecidableEq K] {knd : KeyKind prog w K}
theorem dp_pair {p:Addr} {x y:Value} {Q:List Value→Shared→Prop} (h:IsTup s.heap p #[x,y]) (q:Q [x,y] s):wpAny (model prog w) A (Builtin.Dict.pairItems (.ref p)) Q E s:=by
  obtain ⟨o, e, c, n, d⟩ := h
  unfold Builtin.Dict.pairItems
  refine wpAny_bind (wpAny_typeOf (T:="tuple") ⟨_,e,c⟩ ?_)
  rw [if_pos (by decide)]
  exact wpAny_bind (wpAny_seqItems e d (wpAny_pure q))
structure Dp (knd:KeyKind prog w K) (I l D:Addr) (xs:Array Value) (kvs:List (K × Value)) (h0:Heap) (i:Nat) (h:Heap):Prop where
  dd : h.DictOf knd D (kvs.take i)
  st : h.IsListIter I l i ∧ h.IsList l xs
  old:∀ c o,c ≠ I→c ≠ D→h0.get? c = some o→h.get? c = some o
theorem dp_loop {I l D:Addr} {xs:Array Value} {kvs:List (K × Value)} {h0:Heap} {R:Result→Shared→Prop} (hh:A.handled = none) (lI:l ≠ I) (lD:l ≠ D) (ID:I ≠ D)
    (hn:(kvs.map (·.1)).Nodup) (hz:kvs.length ≤ sizeLine) (hl:xs.size = kvs.length)
    (hp:∀ (i:Nat) (k:K) (v:Value),kvs[i]? = some (k,v)→∃ p x,xs[i]? = some (.ref p)∧p ≠ I∧p ≠ D∧knd.is k x = true∧IsTup h0 p #[x,v]):∀ (n i:Nat) (s:Shared),i + n = kvs.length→Dp knd I l D xs kvs h0 i s.heap →
    (∀ h' tk,h'.DictOf knd D kvs→(∀ c o,c ≠ I→c ≠ D→h0.get? c = some o→h'.get? c = some o)→R (.ok (.ret .none)) { s with heap:=h',toks:=tk }) →
    codeAny (model prog w) A (.builtin "dict.update.loop" ⟨[.ref D,.ref I,rawInt i,.none],[]⟩) R s
  | 0, i, s, hi, S, fin => by
    refine codeAny_builtin dz_entry ?_
    have hi : i = kvs.length := by omega
    subst hi
    have W:=Walks.list (prog:=prog) (w:=w) (A:=A.in1) hh I l lI xs
    have dd:s.heap.DictOf knd D kvs:=by have:=S.dd; rwa [List.take_length] at this
    unfold Builtin.«dict.update.loop»
    refine wpAny_bind (W.done s _ _ (by rw [hl]; exact S.st) fun g tk k=>?_)
    refine wpAny_bind (wpAny_pure (wpAny_pure (fin g tk ?_ fun c o n1 n2 e=>k c o (fun m=>n1 (List.mem_singleton.mp m)) (S.old c o n1 n2 e))))
    obtain ⟨o, es, ep, ho, r⟩ := dd
    exact ⟨o,es,ep,k _ _ (fun m=>ID (List.mem_singleton.mp m).symm) ho,r⟩
  | n + 1, i, s, hi, S, fin => by
    refine codeAny_builtin dz_entry ?_
    obtain ⟨⟨k,v⟩,ek⟩:∃ kv,kvs[i]? = some kv:=⟨kvs[i]'(by omega),List.getElem?_eq_getElem (by omega)⟩
    obtain ⟨p, x, ex, pI, pD, hk, hpr⟩ := hp i k v ek
    have W:=Walks.list (prog:=prog) (w:=w) (A:=A.in1) hh I l lI xs
    unfold Builtin.«dict.update.loop»
    refine wpAny_bind (W.item i s _ _ (by omega) S.st fun v' g tk hv st' kp=>?_)
    rw [ex] at hv
    cases hv
    have kp':∀ c o,c ≠ I→s.heap.get? c = some o→g.get? c = some o:=fun c o n e=>kp c o (fun m=>n (List.mem_singleton.mp m)) e
    have gp : IsTup g p #[x, v] := by
      obtain ⟨o, ho, r⟩ := hpr
      exact ⟨o, kp' _ _ pI (S.old _ _ pI pD ho), r⟩
    have gd : g.DictOf knd D (kvs.take i) := by
      obtain ⟨o, es, ep, ho, r⟩ := S.dd
      exact ⟨o, es, ep, kp' _ _ (Ne.symm ID) ho, r⟩
    refine wpAny_bind (wpAny_holding (wpAny_bind (wpAny_tryCatch (dp_pair gp ?_))))
    refine wpAny_holding (wpAny_dictSet_pairs hk gd (fun g' gd' sb=>?_) (by rw [List.length_take]; omega))
    rw [take_stored hn ek] at gd'
    refine wpAny_pure ⟨Code.quiet_builtin _ (by decide +kernel),?_⟩
    refine dp_loop hh lI lD ID hn hz hl hp n (i + 1) _ (by omega) ⟨gd',?_,fun c o n1 n2 e=>sb.extBut _ _ n2 (kp' _ _ n1 (S.old c o n1 n2 e))⟩ fin
    exact W.frame _ _ _ st' fun b hb o e=>sb.extBut _ _ (fun c=>by
      rcases List.mem_cons.mp hb with e' | hb
      · exact ID (e'.symm.trans c)
      · exact lD ((List.mem_singleton.mp hb).symm.trans c)) e
theorem dp_call {l:Addr} {xs:Array Value} {kvs:List (K × Value)} {Q:Value→Shared→Prop} (hh:A.handled = none) (hl:s.heap.IsList l xs) (hd0:∃ o n,s.heap.get? l = some o∧o.cls = .type "list"∧o.data = .seq xs n∧o.dict = none)
    (hn:(kvs.map (·.1)).Nodup) (hz:kvs.length ≤ sizeLine) (hs:xs.size = kvs.length)
    (hp:∀ (i:Nat) (k:K) (v:Value),kvs[i]? = some (k,v)→∃ p x,xs[i]? = some (.ref p)∧knd.is k x = true∧IsTup s.heap p #[x,v])
    (fin:∀ h' tk,Heap.DictOf knd h' s.heap.objs.size kvs→(∀ c o,s.heap.get? c = some o→h'.get? c = some o)→Q (.ref s.heap.objs.size) { s with heap:=h',toks:=tk }) :
    wpAny (model prog w) A (call (.type "dict") [.ref l]) Q E s:=by
  refine callType_codes (Q₁:=fun obj s₁=>obj = .ref s.heap.objs.size∧s₁ = { s with heap:=s.heap.push { cls:=.type "dict",data:=.dict #[] } }) F.kt_called_dict (F.kt_typeCall_dict_1 _) F.entry_dict_init (kt_code_dict_new _ ⟨rfl,rfl⟩) ?_
  rintro obj s₁ ⟨rfl, rfl⟩
  have hnew:(s.heap.push { cls:=.type "dict",data:=.dict #[] }).DictOf knd s.heap.objs.size []:=Heap.DictOf.new s.heap
  refine ⟨hnew.typeIs, F.args_dict_init_2 _ _, ?_⟩
  unfold Builtin.«dict.__init__»
  refine wpAny_bind ?_
  unfold Builtin.Dict.selfAndRest
  refine wpAny_bind (wpAny_notOrdered_dict hnew.typeIs ?_)
  show wpAny _ _ (pure (s.heap.objs.size,[Value.ref l])) _ _ _
  refine wpAny_pure ?_
  show wpAny _ _ (Builtin.Dict.updateFrom "dict.__init__" s.heap.objs.size (.ref l) [] .none) _ _ _
  unfold Builtin.Dict.updateFrom
  obtain ⟨ol, nl, el, cl, dl, dcl⟩ := hd0
  have el1:=Heap.get?_push_of_some { cls:=.type "dict",data:=.dict #[] } el
  refine wpAny_bind (wpAny_typeOf (T:="list") ⟨_,el1,cl⟩ ?_)
  rw [if_pos (by decide)]
  refine wpAny_bind (lz_keys_none_list el1 cl dl dcl hh fun h1 tk1 kp=>?_)
  simp only [Option.isNone_none, if_true]
  refine wpAny_bind (wpAny_rule ?_)
  have hl1 : h1.IsList l xs := ⟨ol, kp _ _ el1, cl, nl, dl⟩
  refine wpAny_bind (wpAny_pyIter_list hl1 ?_)
  refine wpAny_pure ⟨Code.quiet_builtin _ (by decide +kernel),?_⟩
  have lt:@LT.lt Nat _ l s.heap.objs.size:=Heap.lt_size el
  have ltD:@LT.lt Nat _ s.heap.objs.size h1.objs.size:=by
    obtain ⟨o, es, ep, ho, r⟩ := hnew
    exact Heap.lt_size (kp _ _ ho)
  have old:∀ c o,s.heap.get? c = some o→h1.get? c = some o:=fun c o e=>kp c o (Heap.get?_push_of_some _ e)
  dsimp only
  refine dp_loop (knd:=knd) (A:=A.in1) (h0:=h1) hh (show @Ne Nat _ _ by omega) (show @Ne Nat _ _ by omega) (show @Ne Nat _ _ by omega) hn hz hs (fun i k v e=>?_) kvs.length 0 _ (by omega) ⟨?_,⟨⟨_,Heap.get?_push_size _ rfl,rfl,rfl⟩,hl1.push _⟩,fun c o n1 n2 e=>Heap.get?_push_of_some _ e⟩ fun h' tk dd k=>?_
  · obtain ⟨p, x, e1, e2, e3⟩ := hp i k v e
    obtain ⟨op, ep, rp⟩ := e3
    have lp:@LT.lt Nat _ p s.heap.objs.size:=Heap.lt_size ep
    exact ⟨p,x,e1,show @Ne Nat _ _ by omega,show @Ne Nat _ _ by omega,e2,op,old _ _ ep,rp⟩
  · obtain ⟨o, es, ep, ho, r⟩ := hnew
    exact ⟨o,es,ep,Heap.get?_push_of_some _ (kp _ _ ho),r⟩
  · refine ⟨rfl, fin h' tk dd fun c o e => ?_⟩
    have lc:@LT.lt Nat _ c s.heap.objs.size:=Heap.lt_size e
    exact k c o (show @Ne Nat _ _ by omega) (show @Ne Nat _ _ by omega) (old c o e)
end
section
variable {X : Cx}
def dDictL (K:PySem.W.Frag):List V→Hp→VK→Prop:=fun vs H Q=>match vs with
  | [.ref a]=>∃ (xs:List V) (kvs:List (Key × V)),SqL K H a xs∧Paired (fun v (kv:Key × V)=>∃ p,v = V.ref p∧H p = some (.tup [kV kv.1,kv.2])) xs kvs∧(kvs.map (·.1)).Nodup∧kvs.length ≤ 1000∧∀ D,H D = none→Q (.ref D) (upd H D (.dK kvs))
  | _ => False
theorem dp_vals {pins:List (Addr × Obj)} {σ:L2.St} {H:Hp} {s:Shared} (I:Inv X pins σ H s):∀ {xs:List V} {kvs:List (Key × V)} {us:List Value},Vals xs us→Paired (fun v (kv:Key × V)=>∃ p,v = V.ref p∧H p = some (.tup [kV kv.1,kv.2])) xs kvs →
    ∃ ws:List (Key × Value),KV kvs ws∧∀ (i:Nat) (k:Key) (v:Value),ws[i]? = some (k,v)→∃ p x,us[i]? = some (.ref p)∧(mixKind X.prog X.w).is k x = true∧IsTup s.heap p #[x,v]
  | _,_,_,.nil,.nil=>⟨[],.nil,fun i k v e=>by simp at e⟩
  | _, _, _, .cons r t, .cons ⟨p, e, h⟩ t' => by
    subst e
    cases r
    obtain ⟨ws, h1, h2⟩ := dp_vals I t t'
    obtain ⟨its, rv, pl, _⟩ := I.tuple (SqT.of h)
    cases rv with
    | cons ra rb =>
    cases rb with
    | cons rc rd =>
    cases rd
    rename_i x0 v0
    refine ⟨(_,v0) :: ws,.cons ⟨rfl,rc⟩ h1,fun i k v e=>?_⟩
    cases i with
    | zero =>
      cases e
      exact ⟨p, x0, rfl, kV_is ra, pl⟩
    | succ i => exact h2 i k v (by simpa using e)
theorem c_dictL (hcalm:X.calm = true):CallR X (.type "dict") (dDictL X.K):=by
  intro pins s σ H xs us Q I r h
  match xs, h with
  | [.ref a], ⟨xs, kvs, hx, hp, hn, hz, q⟩ =>
    obtain ⟨u, rfl, r1⟩ := vals1 r
    cases (show u = Value.ref a from r1)
    obtain ⟨its, rv, pl, _⟩ := I.list hx
    obtain ⟨ws, rel, hw⟩ := dp_vals I rv hp
    have l1 := rv.length
    have l2 := rel.length
    have l3 := Paired.length hp
    obtain ⟨o, n, e, c, d, dn⟩ := pl
    have kw : ws.map (·.1) = kvs.map (·.1) := by
      have:∀ {a:List (Key × V)} {b:List (Key × Value)},KV a b→b.map (·.1) = a.map (·.1):=fun {a b} h=>by
        induction h with
        | nil => rfl
        | cons h t ih =>
          rw [List.map_cons, List.map_cons, ih, h.1]
      exact this rel
    refine dp_call (knd:=mixKind X.prog X.w) (kvs:=ws) (I.ok.hd hcalm) ⟨o,e,c,n,dn⟩ ⟨o,n,e,c,dn,d⟩ (by rw [kw]; exact hn) (by rw [← l2]; exact Nat.le_trans hz (by decide)) (by simp only [List.size_toArray]; omega) (fun i k v hi=>?_) fun h' tk dd kp=>?_
    · obtain ⟨p, x, h1, h2, h3⟩ := hw i k v hi
      exact ⟨p, x, by simpa using h1, h2, h3⟩
    · have hD:H s.heap.objs.size = none:=I.hok.fresh (Nat.le_refl _)
      refine ⟨.ref s.heap.objs.size,_,I.laid (a:=s.heap.objs.size) (o:=.dK kvs) (t':=tk) kp (Nat.le_refl _) (dk_new (Nat.le_trans hz (by decide)) ?_ rel dd),rfl,q _ hD⟩
      have:@LT.lt Nat _ sysModules s.heap.objs.size:=I.big
      exact beq_eq_false_iff_ne.mpr (show @Ne Nat _ _ by omega)
end
end Lw
end
section
set_option Elab.async false
set_option linter.all false
set_option maxRecDepth 100000
set_option maxHeartbeats 4000000
namespace Lw
open PySem PySem.Spec PyProof.Rows L2
section
open PySem.SeqAt
variable {X : Cx}
def dLIx (K:PySem.W.Frag):V→List V→Hp→VK→Prop:=fun x xs H Q=>match x,xs with
  | .ref p,[v]=>∃ (ys:List V) (j:Nat) (y:V),SqL K H p ys∧flatV v = true∧ys.all flatV = true∧ys[j]? = some y∧eqV y v = true∧(∀ m z,m < j→ys[m]? = some z→eqV z v = false)∧Q (.int (j:Int)) H
  | _, _ => False
theorem m_lidx : MtR X "list.index" (dLIx X.K) := by
  intro pins s σ H x xs v us Q I rx rs h
  match x, xs, h with
  | .ref p, [z], ⟨ys, j, y, h1, fz, fs, hj, hit, hno, q⟩ =>
    cases rx
    obtain ⟨u, rfl, r1⟩ := vals1 rs
    obtain ⟨its, rv, ⟨o, n, e, c, dd, d⟩, hz⟩ := I.list h1
    obtain ⟨oc, od, odt, osl⟩ := o
    cases c
    cases d
    have hlen := rv.length
    have hj0 := (List.getElem?_eq_some_iff.mp hj).1
    have hj1 : j < its.length := by
      rw [← hlen]
      exact hj0
    have hs : (j : Int) < 2 ^ 63 - 1 := by
      have : j < sizeLine := Nat.lt_of_lt_of_le hj0 hz
      have h2 : sizeLine < 2 ^ 62 := by decide +kernel
      omega
    refine call_meets F.slot_list_index (T:="list") ⟨_,e,rfl⟩ F.entry_list_index (F.args_list_index_2 _ _) (list_indexAt p its.toArray n od osl u (eqU z) j (by simpa using hj1) hs ?_ ?_) ⟨e,fun w hw=>mem_eqAt r1 fz rv fs w (by simpa using hw),⟨.int _,H,I.tok _,⟨_,rfl⟩,q⟩⟩
    · obtain ⟨y',h2,h3⟩:=vals_get rv (i:=j) (u:=its[j]) (by simp [hj1])
      rw [hj] at h2
      cases h2
      have:=eqU_of (x:=z) h3 (List.all_eq_true.mp fs _ (List.mem_of_getElem? hj))
      simpa [this] using hit
    · intro m hm hmj
      have hm : m < its.length := by simpa using hm
      obtain ⟨y',h2,h3⟩:=vals_get rv (i:=m) (u:=its[m]) (by simp [hm])
      have:=eqU_of (x:=z) h3 (List.all_eq_true.mp fs _ (List.mem_of_getElem? h2))
      simpa [this] using hno m y' hmj h2
end
end Lw
end
section
set_option Elab.async false
set_option linter.all false
set_option maxRecDepth 100000
set_option maxHeartbeats 4000000
namespace Lw
open PySem PySem.Spec PyProof.Rows L2
section
variable {X : Cx}
end
end Lw
end
section
set_option Elab.async false
set_option linter.all false
set_option maxRecDepth 100000
set_option maxHeartbeats 4000000
namespace Lw
open PySem PySem.Spec PyProof.Rows L2
section
open PySem.SeqAt PySem.MeetsSeq
open AutoSeq1 (wpAny_loadPart')
theorem rm_loop (a:Addr) (us:Array Value) (n:Nat) (x:Value) (e:Value→Bool) (j:Nat) (hj:j < us.size) (ht:e us[j] = true) (hz:us.size ≤ sizeLine) :
    ∀ (m i:Nat),j - i = m→i ≤ j→(∀ q (hq:q < us.size),i ≤ q→q < j→e us[q] = false)→Meets (Builtin.«list.remove.loop» ⟨[.ref a,x,rawInt i],[]⟩)
      (fun A R s=>(s.heap.get? a = some { cls:=.type "list",data:=.seq us n }∧∀ y,y ∈ us→EqAt A.in1 s y x (e y))∧R (.ok (.ret .none)) { s with heap:=s.heap.update a (Obj.mapSeq fun xs=>xs.eraseIdxIfInBounds j) }):=by
  intro m
  induction m with
  | zero =>
    intro i hm hij hno prog w A R s h
    have : i = j := by omega
    subst this
    obtain ⟨hp, g, d, tk, os⟩ := s
    obtain ⟨⟨hl, he⟩, h⟩ := h
    wp_walk using wpAny_loadPart' hl
    rw [show us[((i:Nat):Int).toNat]? = some us[i] by simp [hj]]
    refine wpAny_bind (he _ (Array.getElem_mem hj) prog w _ _ ?_)
    rw [ht]
    have z:(us.eraseIdxIfInBounds i).size ≤ sizeLine + 1:=Nat.le_trans (size_erased us _) (by omega)
    wp_walk using (wpAny_updateSeq hl rfl (hz:=hz) (_hz':=z)),wpAny_loadPart' hl
    simpa using h
  | succ m ih =>
    intro i hm hij hno prog w A R s h
    obtain ⟨hp, g, d, tk, os⟩ := s
    obtain ⟨⟨hl, he⟩, h⟩ := h
    have lt : i < us.size := by omega
    wp_walk using wpAny_loadPart' hl
    rw [show us[((i:Nat):Int).toNat]? = some us[i] by simp [lt]]
    refine wpAny_bind (he _ (Array.getElem_mem lt) prog w _ _ ?_)
    rw [hno i lt (Nat.le_refl _) (by omega)]
    wp_walk
    rw [show ((i:Int) + 1) = ((i + 1:Nat):Int) by push_cast; rfl]
    refine ⟨plainId_quiet plain_remove_loop _,codeAny_builtin entry_remove_loop ?_⟩
    rw [Around.under_plainId plain_remove_loop _]
    exact ih (i + 1) (by omega) (by omega) (fun q hq h1 h2=>hno q hq (by omega) h2) prog w A R _ ⟨⟨hl,he⟩,h⟩
theorem rm_meets (a:Addr) (us:Array Value) (n:Nat) (x:Value) (e:Value→Bool) (j:Nat) (hj:j < us.size) (ht:e us[j] = true) (hno:∀ q (hq:q < us.size),q < j→e us[q] = false) (hz:us.size ≤ sizeLine) :
    Meets (Builtin.«list.remove» ⟨[.ref a, x], []⟩)
      (fun A R s=>(s.heap.get? a = some { cls:=.type "list",data:=.seq us n }∧∀ y,y ∈ us→EqAt A.in1 s y x (e y))∧R (.ok (.ret .none)) { s with heap:=s.heap.update a (Obj.mapSeq fun xs=>xs.eraseIdxIfInBounds j) }):=by
  intro prog w A R s h
  obtain ⟨hp, g, d, tk, os⟩ := s
  obtain ⟨⟨hl, he⟩, h⟩ := h
  wp_walk using wpAny_loadPart' hl
  refine ⟨plainId_quiet plain_remove_loop _,codeAny_builtin entry_remove_loop ?_⟩
  rw [Around.under_plainId plain_remove_loop _]
  exact rm_loop a us n x e j hj ht hz _ 0 rfl (Nat.zero_le _) (fun q hq _ h2=>hno q hq h2) prog w A R _ ⟨⟨hl,he⟩,h⟩
def rRemoveT (K:PySem.W.Frag):V→List V→Hp→VK→Prop:=fun x vs H Q=>∃ (l:Addr) (xs:List V) (ds:List PyData) (y:V) (d:PyData) (j:Nat),x = .ref l∧vs = [y]∧H l = some (.lst xs)∧Rp K H (.ref l) (.list ds)∧Rp K H y d∧PyData.canLayAll0 ds = true∧d.canLay0 = true∧d.depth ≤ 8∧(∃ d',ds[j]? = some d'∧PyData.eqv d' d = true)∧(∀ (q:Nat) d',q < j→ds[q]? = some d'→PyData.eqv d' d = false)∧Q .non (upd H l (.lst (xs.eraseIdx j)))
variable {X : Cx}
theorem mt_removeT (hu:X.A.units + 64 < cLine):MtM X "list.remove" (rRemoveT X.K):=by
  intro pins s σ H x vs v us Q I rx rv h
  obtain ⟨l,xs,ds,y,d,j,rfl,rfl,hH,h1,h2,c1,c2,c3,⟨d',hd',ht⟩,hno,q⟩:=h
  cases rx
  obtain ⟨u1, rfl, r1⟩ := vals1 rv
  obtain ⟨z, its, n, r, hl, e⟩ := I.lstM hH
  obtain ⟨as, rd⟩ := h1.reads I (v := .ref l) rfl
  obtain ⟨bs, rx⟩ := h2.reads I r1
  cases rd with
  | list g1 g2 g3 g4 =>
    rw [e] at g1
    cases g1
    cases g3
    have em := readsAll_map ds _ _ c1 g4
    have lt : j < its.length := by
      have := congrArg List.length em
      rw [List.length_map] at this
      have := (List.getElem?_eq_some_iff.mp hd').1
      simp at *
      omega
    have at':∀ i (hi:i < its.length),ds[i]? = some (readOf s.heap its[i]):=fun i hi=>by
      rw [← em,List.getElem?_map,show its.toArray.toList = its by simp,List.getElem?_eq_getElem hi]
      rfl
    refine call_meets F.slot_list_remove ⟨_,e,rfl⟩ F.entry_list_remove (F.args_list_remove_2 _ _)
      (rm_meets l its.toArray n u1 (fun y=>PyData.eqv (readOf s.heap y) d) j (by simpa using lt) ?_ (fun m hm hmj=>?_) (by rw [List.size_toArray,← hl]; exact z)) ⟨⟨e,items_eqAt g4 rx c1 c2 ?_⟩,?_⟩
    · have := at' j lt
      rw [hd'] at this
      have := Option.some.inj this
      simp only [List.getElem_toArray]
      rw [← this]
      exact ht
    · have hm : m < its.length := by simpa using hm
      simp only [List.getElem_toArray]
      exact hno m _ hmj (at' m hm)
    · have:min (PyData.depthAll ds) d.depth ≤ d.depth:=Nat.min_le_right _ _
      show X.A.units + 1 + _ < cLine
      omega
    · refine ⟨.non,_,I.lset (its':=its.eraseIdx j) hH e ?_ (Vals.eraseIdx' j r) ?_,rfl,q⟩
      · simp [lt]
      · exact Nat.le_trans (List.length_eraseIdx_le ..) z
end
end Lw
end
section
set_option Elab.async false
set_option linter.all false
set_option maxRecDepth 100000
set_option maxHeartbeats 4000000
namespace Lw
open PySem PySem.Spec PyProof.Rows L2
section
variable {X : Cx}
theorem t_dinK {i o:Expr} {ty td:TE} {pos:Pos} (hu:X.A.units + 1 < cLine) (hi:PE X i ty) (ho:PE X o td) (hm:behindInMarks .In o = false):PT X (.Compare i [.In] [o] pos) (dTest (tDIn ty td)):=by
  rw [dTest_eqB]
  exact pt_cmp (pc_din hu hi ho) hm
theorem t_dninK {i o:Expr} {ty td:TE} {pos:Pos} (hu:X.A.units + 1 < cLine) (hi:PE X i ty) (ho:PE X o td) (hm:behindInMarks .NotIn o = false):PT X (.Compare i [.NotIn] [o] pos) (dTest (tDNotIn ty td)):=by
  rw [dTest_eqB]
  exact pt_cmp (pc_dnotin hu hi ho) hm
end
end Lw
end
section
set_option Elab.async false
set_option linter.all false
set_option maxRecDepth 100000
set_option maxHeartbeats 4000000
set_option autoImplicit false
namespace Lw
open PySem PySem.Spec PyProof.Rows L2
structure DfnM (K:PySem.W.Frag) (Cs Ds:List Addr) (m qual:Str) (st:Stmt) (ps:List Str):Prop where
  ex:∃ (f:Addr) (fd:FuncData),Fun K m qual st f fd∧(∀ C ∈ Cs,Meth K C m f)∧(∀ C ∈ Ds,PySem.W.findCls K (.ref C) (.type "type") m = some (.val (.ref f)))∧Binds K fd ps []
structure CalM (P:Program) (w:World) (K:PySem.W.Frag) (mg:Str→Option Value) (base:Heap) (Cs Ds:List Addr) (m:Str) (ps:List Str) (k:Nat) (sp:Sp):Prop where
  ex:∃ (f:Addr) (fd:FuncData),(∀ C ∈ Cs,Meth K C m f)∧(∀ C ∈ Ds,PySem.W.findCls K (.ref C) (.type "type") m = some (.val (.ref f)))∧PySem.W.keepIn K (.ref f) = true∧Binds K fd ps []∧FnOk P w K mg base (CXE P w) k f fd ps sp
section
variable {P:Program} {w:World} {K:PySem.W.Frag} {mg:Str→Option Value} {base:Heap} {Cs Ds:List Addr}
theorem DfnM.calX {m qual:Str} {st:Stmt} {N ps:List Str} {k:Nat} {sp:Sp} (d:DfnM K Cs Ds m qual st ps) (S:FnScope N ps (defScope st)) (len:∀ vs H Q E,sp vs H Q E→vs.length = ps.length)
    (hbody:∀ (f:Addr) (cdv:Value) (A:Around) (outer:List Env) (s:Shared) (H:Hp) (vs:List V) (Q:VK) (E:XK),Room k (A.deeper (envOfC qual (defScope st) s.heap.objs.size f cdv))→sp vs H Q E →
      ∃ t,PSs (cxOf (CXE P w) P w K mg base N qual (defScope st) f cdv A outer s H E) (defBody st) t∧t { nx:=fun _ H'=>Q .non H',rt:=Q } (start N vs) H):CalM P w K mg base Cs Ds m ps (k + 1) sp:=by
  obtain ⟨f, fd, F, hm, hd, hb⟩ := d.ex
  obtain ⟨oc,od,kV,doc,pm,an,cdv,ct,osl,rfl,lk,hcd⟩:=F.ex
  exact ⟨f,_,hm,hd,F.kp,hb,fn_of lk hcd S len fun A outer s H vs Q E hr hsp=>hbody f cdv A outer s H vs Q E hr hsp⟩
theorem DfnM.cal {m qual:Str} {st:Stmt} {N ps:List Str} {k:Nat} {sp:Sp} (d:DfnM K Cs Ds m qual st ps) (S:FnScope N ps (defScope st)) (len:∀ vs H Q E,sp vs H Q E→vs.length = ps.length)
    (hbody:∀ (f:Addr) (cdv:Value) (A:Around) (outer:List Env) (s:Shared) (H:Hp) (vs:List V) (Q:VK) (E:XK),Room k (A.deeper (envOfC qual (defScope st) s.heap.objs.size f cdv))→sp vs H Q E →
      ∃ t,PSs (cxOf (CXE P w) P w K mg base N qual (defScope st) f cdv A outer s H E).nox (defBody st) t∧t { nx:=fun _ H'=>Q .non H',rt:=Q } (start N vs) H):CalM P w K mg base Cs Ds m ps (k + 1) sp :=
  d.calX S len fun f cdv A outer s H vs Q E hr hsp => by
    obtain ⟨t,h,q⟩:=hbody f cdv A outer s H vs Q E hr hsp
    exact ⟨t, h.nox, q⟩
def MV (P:Program) (w:World) (K:PySem.W.Frag) (mg:Str→Option Value) (base:Heap) (m:Str) (k:Nat) (T:List (Addr × Sp)):Prop :=
  ∀ p ∈ T,∃ (f:Addr) (fd:FuncData) (ps:List Str),Cls K p.1∧Meth K p.1 m f∧Binds K fd ps []∧FnOk P w K mg base (CXE P w) k f fd ps p.2
theorem mv_nil {m:Str} {k:Nat}:MV P w K mg base m k []:=fun p hp=>by cases hp
theorem mv_cons {C:Addr} {m:Str} {ps:List Str} {k k':Nat} {sp:Sp} {T:List (Addr × Sp)} (c:CalM P w K mg base Cs Ds m ps k sp) (hC:C ∈ Cs) (cl:Cls K C) (hk:k ≤ k') (r:MV P w K mg base m k' T):MV P w K mg base m k' ((C,sp) :: T):=fun p hp=>by
  rcases List.mem_cons.mp hp with rfl | hp
  · obtain ⟨f, fd, h1, _, _, h3, h4⟩ := c.ex
    exact ⟨f, fd, ps, cl, h1 C hC, h3, h4.mono hk⟩
  · exact r p hp
end
def dMethV (T:List (Addr × Sp)) (m:Str) (E:XK) (ta:TE) (t:TA):TE:=fun σ H Q=>ta σ H fun x H1=>∃ a C dx fs sp,x = .ref a∧H1 a = some (.ins C dx fs)∧(C,sp) ∈ T∧fs.lookup m = none∧t σ H1 fun vs H2=>sp (.ref a :: vs) H2 Q E
structure MkC (K : PySem.W.Frag) (C : Addr) : Prop where
  makes : PySem.W.makesIn K C = true
  kp : PySem.W.keepIn K (.ref C) = true
structure RdC (K : PySem.W.Frag) (C : Addr) : Prop where
  reads : PySem.W.readsIn K C (.type "type") = true
  ga:PySem.W.specialIn K (.ref C) "__getattribute__" = some (some (.builtin "type.__getattribute__"))
def dMake (C:Addr) (sp:Sp) (E:XK) (t:TA):TE:=fun σ H Q=>t σ H fun vs H1=>∀ x dx,H1 x = none→H1 dx = none→dx ≠ x →
  sp (.ref x :: vs) (upd (upd H1 dx (.own x)) x (.ins C dx [])) (fun v H2=>v = .non∧Q (.ref x) H2) E
theorem dMake_eq (C:Addr) (sp:Sp) (E:XK) (t:TA):dMake C sp E t = tMake C sp [] E t:=by
  funext σ H Q
  unfold dMake tMake
  simp only [List.append_nil]
section
variable {X : Cx} {pos p : Pos} {Cs Ds : List Addr} {E : XK}
theorem methG {o e:Expr} {es:List Expr} {ta:TE} {t:TA} {T:List (Addr × Sp)} {m:Str} {k:Nat} {apos:Pos} {pl:Sem Bool} (he:PE X o ta) (hT:MV X.prog X.w X.K X.mg X.base m k T) (hr:Room k X.A) (hx:Passes (CXE X.prog X.w) X E) (ha:PA X (e :: es) t)
    (hst:starEach (e :: es) X.env = (false,eval e X.env) :: starEach es X.env) (hpl:(backTo pos (starEach es X.env)).any (·.1) = false)
    (ht:eval (.Call (.Attribute o m apos) (e :: es) [] pos) X.env = (do
      let ov ← eval o X.env
      standAt apos.atName
      let (f, first) ← holding [ov] (getMethod ov m pl)
      callWith pos f first (backTo pos (starEach (e :: es) X.env)) (backToKw pos (keywordEach [] X.env)))) :
    PE X (.Call (.Attribute o m apos) (e :: es) [] pos) (dMethV T m E ta t):=by
  intro pins s σ H Q I h
  refine PySem.W.methodCall_KW (pl:=pl) (thn (he pins s σ H _ I h) fun u s1 ⟨x,H1,I1,rx,a,C,dx,fs,sp,ex,ea,hC,l,q⟩=>?_) ht
  subst ex
  obtain rfl : u = Value.ref a := rx
  obtain ⟨f, fd, ps, c, hm, hb, F⟩ := hT _ hC
  refine getmeth_ok I1 ea c hm l ?_
  refine PySem.W.callWith_K (first:=[.ref a]) (h₀:=X.base) I.ok.mod.kin hm.kp (thn (ha pos pins s1 σ H1 _ I1 q) fun us s2 ⟨vs,H2,I2,r,q2⟩=>⟨I2.kIn,?_⟩) hst hpl
  exact run_fn (us:=.ref a :: us) (vs:=.ref a :: vs) (dvs:=[]) F hr hb .nil hx I2 (.cons rfl r) (by rw [List.append_nil]; exact q2)
theorem e_methV {o e:Expr} {es:List Expr} {ta:TE} {t:TA} {T:List (Addr × Sp)} {m:Str} {k:Nat} {apos:Pos} {pl:Sem Bool} (he:PE X o ta) (hT:MV X.prog X.w X.K X.mg X.base m k T) (hr:Room k X.A) (ha:PA X (e :: es) t)
    (hst:starEach (e :: es) X.env = (false,eval e X.env) :: starEach es X.env:=by rfl) (hpl:(backTo pos (starEach es X.env)).any (·.1) = false:=by rfl)
    (ht:eval (.Call (.Attribute o m apos) (e :: es) [] pos) X.env = (do
      let ov ← eval o X.env
      standAt apos.atName
      let (f, first) ← holding [ov] (getMethod ov m pl)
      callWith pos f first (backTo pos (starEach (e :: es) X.env)) (backToKw pos (keywordEach [] X.env))):=by rfl) :
    PE X (.Call (.Attribute o m apos) (e :: es) [] pos) (dMethV T m E0 ta t):=methG he hT hr passX0 ha hst hpl ht
theorem makeG {x:Str} {C:Addr} {ps:List Str} {k k':Nat} {sp:Sp} {e:Expr} {es:List Expr} {t:TA} (c:CalM X.prog X.w X.K X.mg X.base Cs Ds "__init__" ps k sp) (hC:C ∈ Cs) (M:MkC X.K C) (hr:Room k' X.A) (hk:k + 1 ≤ k') (hg:Gl X x) (hm:X.mg x = some (.ref C)) (hx:Passes (CXE X.prog X.w) X E)
    (ha:PA X (e :: es) t) (hdb:(x == ("__debug__":Str)) = false) (he:starEach (e :: es) X.env = (false,eval e X.env) :: starEach es X.env) (hpl:(backTo pos (starEach es X.env)).any (·.1) = false) :
    PE X (.Call (.Name x p) (e :: es) [] pos) (dMake C sp E t):=by
  obtain ⟨f, fd, h1, _, _, h3, h4⟩ := c.ex
  rw [dMake_eq]
  exact pe_make ⟨M.makes,(h1 C hC).at_,(h1 C hC).fn,M.kp⟩ h4 (hr.mono hk) hg hm h3 .nil hx ha hdb he hpl
theorem e_make {x:Str} {C:Addr} {ps:List Str} {k k':Nat} {sp:Sp} {e:Expr} {es:List Expr} {t:TA} (c:CalM X.prog X.w X.K X.mg X.base Cs Ds "__init__" ps k sp) (hC:C ∈ Cs) (M:MkC X.K C) (hr:Room k' X.A) (hk:k + 1 ≤ k') (hg:Gl X x) (hm:X.mg x = some (.ref C))
    (ha:PA X (e :: es) t) (hdb:(x == ("__debug__":Str)) = false:=by decide) (he:starEach (e :: es) X.env = (false,eval e X.env) :: starEach es X.env:=by rfl) (hpl:(backTo pos (starEach es X.env)).any (·.1) = false:=by rfl) :
    PE X (.Call (.Name x p) (e :: es) [] pos) (dMake C sp E0 t):=makeG c hC M hr hk hg hm passX0 ha hdb he hpl
theorem clsG {x m:Str} {C:Addr} {ps:List Str} {k k':Nat} {sp:Sp} {e:Expr} {es:List Expr} {t:TA} {apos:Pos} {pl:Sem Bool} (c:CalM X.prog X.w X.K X.mg X.base Cs Ds m ps k sp) (hC:C ∈ Ds) (R:RdC X.K C) (hr:Room k' X.A) (hk:k ≤ k') (hg:Gl X x) (hm:X.mg x = some (.ref C)) (hx:Passes (CXE X.prog X.w) X E)
    (ha:PA X (e :: es) t) (hdb:(x == ("__debug__":Str)) = false) (hst:starEach (e :: es) X.env = (false,eval e X.env) :: starEach es X.env) (hpl:(backTo pos (starEach es X.env)).any (·.1) = false)
    (ht:eval (.Call (.Attribute (.Name x p) m apos) (e :: es) [] pos) X.env = (do
      let ov ← eval (.Name x p) X.env
      standAt apos.atName
      let (f, first) ← holding [ov] (getMethod ov m pl)
      callWith pos f first (backTo pos (starEach (e :: es) X.env)) (backToKw pos (keywordEach [] X.env)))) :
    PE X (.Call (.Attribute (.Name x p) m apos) (e :: es) [] pos) (tCall sp [] E t):=by
  intro pins s σ H Q I h
  obtain ⟨f, fd, _, h2, hkp, h3, h4⟩ := c.ex
  refine PySem.W.methodCall_KW (pl:=pl) (ld_glob I hg hm ?_ hdb) ht
  refine PySem.W.method_cls I.kIn R.ga (PySem.W.cls_value I.kIn R.reads (h2 C hC) rfl ?_)
  have I1 := I.tok (s.toks + 1)
  refine PySem.W.callWith_K (first:=[]) (h₀:=X.base) I.ok.mod.kin hkp (thn (ha pos pins _ σ H _ I1 h) fun us s2 ⟨vs,H2,I2,r,q2⟩=>⟨I2.kIn,?_⟩) hst hpl
  exact run_fn (us:=us) (vs:=vs) (h4.mono hk) hr h3 .nil hx I2 r q2
theorem e_clsC {x m:Str} {C:Addr} {ps:List Str} {k k':Nat} {sp:Sp} {e:Expr} {es:List Expr} {t:TA} {apos:Pos} {pl:Sem Bool} (c:CalM X.prog X.w X.K X.mg X.base Cs Ds m ps k sp) (hC:C ∈ Ds) (R:RdC X.K C) (hr:Room k' X.A) (hk:k ≤ k') (hg:Gl X x) (hm:X.mg x = some (.ref C))
    (ha:PA X (e :: es) t) (hdb:(x == ("__debug__":Str)) = false:=by decide) (hst:starEach (e :: es) X.env = (false,eval e X.env) :: starEach es X.env:=by rfl) (hpl:(backTo pos (starEach es X.env)).any (·.1) = false:=by rfl)
    (ht:eval (.Call (.Attribute (.Name x p) m apos) (e :: es) [] pos) X.env = (do
      let ov ← eval (.Name x p) X.env
      standAt apos.atName
      let (f, first) ← holding [ov] (getMethod ov m pl)
      callWith pos f first (backTo pos (starEach (e :: es) X.env)) (backToKw pos (keywordEach [] X.env))):=by rfl) :
    PE X (.Call (.Attribute (.Name x p) m apos) (e :: es) [] pos) (dCall sp t):=by
  rw [dCall_eq]
  exact clsG c hC R hr hk hg hm passX0 ha hdb hst hpl ht
structure IsC (K : PySem.W.Frag) (C : Addr) : Prop where
  ha:PySem.W.findIn K (.ref C) "__class__" = some (some (.builtin "object.__class__"))
  hn:PySem.W.specialIn K (.builtin "object.__class__") "__get__" = some (some (.builtin "getset_descriptor.__get__"))
  ht:PySem.W.takesIn K (.builtin "object.__class__") = some true
  hm : PySem.W.mroIn K C (.type "object") = some true
theorem ac_nil {p:Addr→Prop}:∀ C ∈ ([]:List Addr),p C:=fun _ h=>by cases h
theorem ac_cons {p:Addr→Prop} {c:Addr} {l:List Addr} (h:p c) (r:∀ C ∈ l,p C):∀ C ∈ c :: l,p C:=fun C hC=>by
  rcases List.mem_cons.mp hC with rfl | hC
  · exact h
  · exact r C hC
end
end Lw
end
set_option Elab.async false
set_option linter.all false
set_option maxRecDepth 100000
set_option maxHeartbeats 0
set_option exponentiation.threshold 5000
namespace My
open PySem PySem.Spec PyProof.Rows L2 Lw
local macro_rules | `(tactic| walk_at "hp")=>`(tactic| first | assumption | (refine sm_at (by assumption) ?_; walk_at "hp") | (refine sm_sq (by assumption) ?_; walk_at "hp") | (refine Fq.up (by assumption) ?_; walk_at "hp") | (refine Pq.up (by assumption) ?_; walk_at "hp"))
def top (i:Nat):Stmt:=PySem.Challenge.pw_ladderworth_k47_whole_walks_told_otherwi.main.body.getD i (.Pass ⟨0,0,0,0⟩)
abbrev s_is_whole : Stmt := top 6
abbrev s_fraction : Stmt := top 7
abbrev s_greatest_divisor : Stmt := top 8
abbrev s_plus : Stmt := top 9
abbrev s_minus : Stmt := top 10
abbrev s_under : Stmt := top 11
abbrev s_is_between : Stmt := top 13
abbrev s_in_order : Stmt := top 15
abbrev s_trail : Stmt := top 17
abbrev s_next_step : Stmt := top 18
abbrev s_rest_behind : Stmt := top 19
abbrev s_move : Stmt := top 20
abbrev s_running : Stmt := top 21
abbrev s_table_of : Stmt := top 27
abbrev s_is_row : Stmt := top 28
abbrev s_is_pair : Stmt := top 29
abbrev s_is_share : Stmt := top 30
abbrev s_goes_on : Stmt := top 31
abbrev s_share_by : Stmt := top 32
abbrev s_Rule___init__ : Stmt := inClass (top 33) 0
abbrev s_Rule_size : Stmt := inClass (top 33) 1
abbrev s_Rule_bit : Stmt := inClass (top 33) 2
abbrev s_Early___init__ : Stmt := inClass (top 34) 0
abbrev s_Early_size : Stmt := inClass (top 34) 1
abbrev s_Rested___init__ : Stmt := inClass (top 35) 0
abbrev s_Rested_size : Stmt := inClass (top 35) 1
abbrev s_Capped___init__ : Stmt := inClass (top 36) 0
abbrev s_Capped_bit : Stmt := inClass (top 36) 1
abbrev s_uncut_bit : Stmt := top 37
abbrev s_cut : Stmt := top 38
abbrev s_l_cell : Stmt := top 40
abbrev s_l_common : Stmt := top 41
abbrev s_l_low : Stmt := top 42
abbrev s_l_names : Stmt := top 43
abbrev s_l_game : Stmt := top 44
abbrev s_l_number : Stmt := top 45
abbrev s_l_rows : Stmt := top 46
abbrev s_l_rule : Stmt := top 47
abbrev s_l_named : Stmt := top 48
abbrev s_l_otherwise : Stmt := top 49
abbrev s_l_shuffled : Stmt := top 50
abbrev s_l_parted : Stmt := top 51
abbrev s_law : Stmt := top 52
structure Errs (K:PySem.W.Frag) (mg:Str→Option Value) (c_Capped c_Early c_NoTable c_Rested c_Rule:Addr):Prop where
  b_Capped : mg "Capped" = some (.ref c_Capped)
  b_Early : mg "Early" = some (.ref c_Early)
  b_NoTable : mg "NoTable" = some (.ref c_NoTable)
  b_Rested : mg "Rested" = some (.ref c_Rested)
  b_Rule : mg "Rule" = some (.ref c_Rule)
  y_NoTable:PySem.W.nsIn K mainGlobals "NoTable" = some (some (.ref c_NoTable))
  x_NoTable : ExcC K c_NoTable
  y_Capped:PySem.W.nsIn K mainGlobals "Capped" = some (some (.ref c_Capped))
  l_Capped : Cls K c_Capped
  m_Capped : MkC K c_Capped
  na_Capped_cap : NoAttr K c_Capped "cap"
  na_Capped_first : NoAttr K c_Capped "first"
  na_Capped_step : NoAttr K c_Capped "step"
  na_Capped_table : NoAttr K c_Capped "table"
  y_Early:PySem.W.nsIn K mainGlobals "Early" = some (some (.ref c_Early))
  l_Early : Cls K c_Early
  m_Early : MkC K c_Early
  na_Early_early : NoAttr K c_Early "early"
  na_Early_first : NoAttr K c_Early "first"
  na_Early_many : NoAttr K c_Early "many"
  na_Early_step : NoAttr K c_Early "step"
  na_Early_table : NoAttr K c_Early "table"
  y_Rested:PySem.W.nsIn K mainGlobals "Rested" = some (some (.ref c_Rested))
  l_Rested : Cls K c_Rested
  m_Rested : MkC K c_Rested
  na_Rested_first : NoAttr K c_Rested "first"
  na_Rested_pause : NoAttr K c_Rested "pause"
  na_Rested_step : NoAttr K c_Rested "step"
  na_Rested_table : NoAttr K c_Rested "table"
  na_Rested_times : NoAttr K c_Rested "times"
  y_Rule:PySem.W.nsIn K mainGlobals "Rule" = some (some (.ref c_Rule))
  l_Rule : Cls K c_Rule
  m_Rule : MkC K c_Rule
  r_Rule : RdC K c_Rule
  na_Rule_first : NoAttr K c_Rule "first"
  na_Rule_step : NoAttr K c_Rule "step"
  na_Rule_table : NoAttr K c_Rule "table"
section
variable {P:Program} {w:World} {K:PySem.W.Frag} {mg:Str→Option Value} {base:Heap} {ns:List Int}
variable {c_Capped c_Early c_NoTable c_Rested c_Rule:Addr} {a_FIRST_ROW:Addr} {b_FIRST_ROW_1:Addr}
--@thinall
theorem nb {P:Prop} {a b:Bool} (h:a = b) (n:(a == b) = false:=by rfl):P:=by
  subst h
  rw [beq_self_eq_true] at n
  cases n
def wh : V → Bool
  | .int _ => true
  | _ => false
def Kd (H : Hp) : V → Prop
  | .int _ => True
  | .bl _ => True
  | .non => True
  | .str _ => True
  | .ref p=>∃ u t,H p = some u∧tyHO u = some t∧tyB t "int" = some false
  | _ => False
theorem Kd.up {H H':Hp} (s:Same H H'):∀ {v:V},Kd H v→Kd H' v
  | .int _, h => h
  | .bl _, h => h
  | .non, h => h
  | .str _, h => h
  | .ref p, ⟨u, t, h1, h2⟩ => ⟨u, t, s _ _ h1, h2⟩
  | .flt _, h => h.elim
  | .byt _, h => h.elim
  | .ty _, h => h.elim
def ExN (K:PySem.W.Frag) (x:Str) (E:XK) (H:Hp):Prop:=∀ C,PySem.W.nsIn K mainGlobals x = some (some (.ref C))→E (.ref C) none H
def sp_is_whole (K:PySem.W.Frag) (ns:List Int):Sp:=fun vs H Q _=>match vs with
  | [v] => Kd H v ∧ Q (.bl (wh v)) H
  | _ => False
theorem sc_is_whole:FnScope ["thing"] ["thing"] (defScope s_is_whole):=⟨rfl,rfl,rfl,by decide +kernel,rfl,by decide +kernel,by decide +kernel⟩
theorem ok_is_whole (d:Dfn K mg "is_whole" s_is_whole ["thing"]) (er:Errs K mg c_Capped c_Early c_NoTable c_Rested c_Rule) (n_isinstance:mg "isinstance" = none) (n_bool:mg "bool" = none) (n_int:mg "int" = none)  :Cal P w K mg base "is_whole" ["thing"] 1 (sp_is_whole K ns):=by
  refine d.cal (k:=0) sc_is_whole (fun vs H Q E h=>?_) (fun f cdv A outer s H vs Q E hr h=>?_)
  · match vs, h with
    | [_], _ => rfl
  · refine ⟨_,(@pss_one _ _ _ (@ps_ret _ _ _ _ (@e_and _ _ _ _ _ _ _ (@pe_callB _ _ _ _ _ _ _ _ _ c_isi (by rfl) n_isinstance (by decide +kernel) (@pa_cons _ _ _ _ _ (dv 0) (@pa_cons _ _ _ _ _ (e_ty "int" (by rfl) n_int (by decide +kernel)) pa_nil (by rfl)) (by rfl)) (by decide) (by decide) (by rfl) (by rfl)) (@pe_one _ _ _ _ _ (@e_not _ _ _ _ (@pe_callB _ _ _ _ _ _ _ _ _ c_isi (by rfl) n_isinstance (by decide +kernel) (@pa_cons _ _ _ _ _ (dv 0) (@pa_cons _ _ _ _ _ (e_ty "bool" (by rfl) n_bool (by decide +kernel)) pa_nil (by rfl)) (by rfl)) (by decide) (by decide) (by rfl) (by rfl))))))),?_⟩
    match vs, h with
    | [.int _],⟨_,q⟩=>exact ⟨true,rfl,fun _=>⟨false,rfl,q⟩,fun h=>absurd h (by decide)⟩
    | [.bl _],⟨_,q⟩=>exact ⟨true,rfl,fun _=>⟨true,rfl,q⟩,fun h=>absurd h (by decide)⟩
    | [.non],⟨_,q⟩=>exact ⟨false,rfl,fun h=>absurd h (by decide),fun _=>q⟩
    | [.str _],⟨_,q⟩=>exact ⟨false,rfl,fun h=>absurd h (by decide),fun _=>q⟩
    | [.ref _],⟨⟨u,t,h1,h2,h3⟩,q⟩=>exact ⟨u,false,t,h1,h2,h3,fun h=>absurd h (by decide),fun _=>q⟩
    | [.flt _], ⟨z, _⟩ => exact z.elim
    | [.byt _], ⟨z, _⟩ => exact z.elim
    | [.ty _], ⟨z, _⟩ => exact z.elim
def sp_greatest_divisor (K:PySem.W.Frag) (ns:List Int):Sp:=fun vs H Q _=>match vs with
  | [.int x, .int y] => Q (.int (Int.gcd x y : Int)) H
  | _ => False
theorem sc_greatest_divisor:FnScope ["one","other","rest"] ["one","other"] (defScope s_greatest_divisor):=⟨rfl,rfl,rfl,by decide +kernel,rfl,by decide +kernel,by decide +kernel⟩
theorem ok_greatest_divisor (d:Dfn K mg "greatest_divisor" s_greatest_divisor ["one","other"]) (er:Errs K mg c_Capped c_Early c_NoTable c_Rested c_Rule) (n_abs:mg "abs" = none)  :Cal P w K mg base "greatest_divisor" ["one","other"] 1 (sp_greatest_divisor K ns):=by
  refine d.cal (k:=0) sc_greatest_divisor (fun vs H Q E h=>?_) (fun f cdv A outer s H vs Q E hr h=>?_)
  · match vs, h with
    | [.int x, .int y], _ => rfl
  · match vs, h with
    | [.int x, .int y], hq0 =>
      have q := hq0
      refine ⟨_,(@pss_cons _ _ _ _ _ (@s_while _ _ _ _ _ _ PassesOwn.never (@t_cmp _ _ _ _ _ _ _ _ o_ne (dv 1) pe_int (@nomark _ _ (by decide) (by decide))) (@pss_cons _ _ _ _ _ (@ps_set _ _ (2) _ _ _ _ sc_greatest_divisor.nd rfl (by first | exact Or.inl rfl | exact Or.inr rfl) (@pe_op _ _ _ _ _ _ _ _ o_modN (dv 0) (dv 1)) (by rfl) (by first | exact .inl rfl | exact .inr rfl | assumption)) (@pss_cons _ _ _ _ _ (@ps_set _ _ (0) _ _ _ _ sc_greatest_divisor.nd rfl (by first | exact Or.inl rfl | exact Or.inr rfl) (dv 1) (by rfl) (by first | exact .inl rfl | exact .inr rfl | assumption)) (@pss_one _ _ _ (@ps_set _ _ (1) _ _ _ _ sc_greatest_divisor.nd rfl (by first | exact Or.inl rfl | exact Or.inr rfl) (dv 2) (by rfl) (by first | exact .inl rfl | exact .inr rfl | assumption)))))) (@pss_one _ _ _ (@ps_ret _ _ _ _ (@pe_callB _ _ _ _ _ _ _ _ _ c_abs (by rfl) n_abs (by decide +kernel) (@pa_cons _ _ _ _ _ (dv 0) pa_nil (by rfl)) (by decide) (by decide) (by rfl) (by rfl))))),?_⟩
      refine ⟨fun m σ H'=>∃ a b o,σ = [some (.int a),some (.int b),o]∧H' = H∧Int.gcd a b = Int.gcd x y∧m = b.natAbs,⟨_,x,y,none,rfl,rfl,rfl,rfl⟩,?_⟩
      rintro m σ H' ⟨a, b, o, rfl, rfl, g, rfl⟩
      refine ⟨fun h => ?_, fun h => ?_⟩
      · have hb : ¬ b = 0 := by simpa using h
        refine ⟨hb, ?_⟩
        exact ⟨(a.fmod b).natAbs,fmod_lt a hb,b,a.fmod b,_,rfl,rfl,by rw [gcd_fmod,g],rfl⟩
      · have hb : b = 0 := by simpa using h
        subst hb
        have e:(Int.gcd x y:Int) = (a.natAbs:Int):=by
          rw [← g, Int.gcd_zero_right]
        have q : Q (.int (Int.gcd x y : Int)) H' := q
        rw [e] at q
        exact q
def sp_fraction (K:PySem.W.Frag) (ns:List Int):Sp:=fun vs H Q _=>match vs with
  | [.int t,.int b]=>(b ≠ 0∧Bd 4000 b)∧∀ p H',Same H H'→FrAt H' p t b→Q (.ref p) H'
  | _ => False
theorem sc_fraction:FnScope ["top","bottom","divisor"] ["top","bottom"] (defScope s_fraction):=⟨rfl,rfl,rfl,by decide +kernel,rfl,by decide +kernel,by decide +kernel⟩
theorem ok_fraction (d:Dfn K mg "fraction" s_fraction ["top","bottom"]) (er:Errs K mg c_Capped c_Early c_NoTable c_Rested c_Rule)   (c_greatest_divisor:Cal P w K mg base "greatest_divisor" ["one","other"] 1 (sp_greatest_divisor K ns)) (c_is_whole:Cal P w K mg base "is_whole" ["thing"] 1 (sp_is_whole K ns)):Cal P w K mg base "fraction" ["top","bottom"] 2 (sp_fraction K ns):=by
  refine d.cal (k:=1) sc_fraction (fun vs H Q E h=>?_) (fun f cdv A outer s H vs Q E hr h=>?_)
  · match vs, h with
    | [.int t, .int b], _ => rfl
  · match vs, h with
    | [.int t, .int b], hq0 =>
      obtain ⟨⟨b0, b1⟩, q⟩ := hq0
      refine ⟨_,(@pss_cons _ _ _ _ _ (@s_if _ _ _ _ _ _ _ _ (@L2.PW.pt _ _ _ (@w_or _ _ _ _ _ _ _ (@pt_not _ _ _ _ (@t_val _ _ _ (@e_call _ _ _ _ _ _ _ _ _ _ _ c_is_whole hr (by decide) (by rfl) (@pa_cons _ _ _ _ _ (dv 0) pa_nil (by rfl)) (by decide) (by rfl) (by rfl)) (by intro _; rfl))) (@pw_or1 _ _ _ _ (@pt_not _ _ _ _ (@t_val _ _ _ (@e_call _ _ _ _ _ _ _ _ _ _ _ c_is_whole hr (by decide) (by rfl) (@pa_cons _ _ _ _ _ (dv 1) pa_nil (by rfl)) (by decide) (by rfl) (by rfl)) (by intro _; rfl)))))) (@pss_one _ _ _ ps_never) pss_nil) (@pss_cons _ _ _ _ _ (@s_if _ _ _ _ _ _ _ _ (@t_cmp _ _ _ _ _ _ _ _ o_eq (dv 1) pe_int (@nomark _ _ (by decide) (by decide))) (@pss_one _ _ _ ps_never) pss_nil) (@pss_cons _ _ _ _ _ (@ps_set _ _ (2) _ _ _ _ sc_fraction.nd rfl (by first | exact Or.inl rfl | exact Or.inr rfl) (@e_call _ _ _ _ _ _ _ _ _ _ _ c_greatest_divisor hr (by decide) (by rfl) (@pa_cons _ _ _ _ _ (dv 0) (@pa_cons _ _ _ _ _ (dv 1) pa_nil (by rfl)) (by rfl)) (by decide) (by rfl) (by rfl)) (by rfl) (by first | exact .inl rfl | exact .inr rfl | assumption)) (@pss_cons _ _ _ _ _ (@s_if _ _ _ _ _ _ _ _ (@t_cmp _ _ _ _ _ _ _ _ o_lt (dv 1) pe_int (@nomark _ _ (by decide) (by decide))) (@pss_one _ _ _ (@ps_set _ _ (2) _ _ _ _ sc_fraction.nd rfl (by first | exact Or.inl rfl | exact Or.inr rfl) (@pe_un _ _ _ _ _ _ u_neg (dv 2)) (by rfl) (by first | exact .inl rfl | exact .inr rfl | assumption))) pss_nil) (@pss_one _ _ _ (@ps_ret _ _ _ _ (@e_tup _ _ _ _ _ (@pa_cons _ _ _ _ _ (@pe_op _ _ _ _ _ _ _ _ o_divN (dv 0) (dv 2)) (@pa_cons _ _ _ _ _ (@pe_op _ _ _ _ _ _ _ _ o_divN (dv 1) (dv 2)) pa_nil (by rfl)) (by rfl))))))))),?_⟩
      refine ⟨True.intro,⟨fun h=>nb h,fun _=>⟨True.intro,⟨fun h=>nb h,fun _=>?_⟩⟩⟩⟩
      refine ⟨fun h=>absurd (of_decide_eq_true h) b0,fun _=>?_⟩
      have d0 := dvs_ne t b0
      have d1 := bd_dvs t b0 b1
      have e1 := fdiv_T t b0
      have e2 := fdiv_B t b0
      refine ⟨fun h => ?_, fun h => ?_⟩
      · have h := of_decide_eq_true h
        have e : dvs t b = -(Int.gcd t b : Int) := if_pos h
        rw [e] at d0 d1 e1 e2
        refine ⟨⟨d0,d1⟩,⟨⟨d0,d1⟩,fun p H' s z=>q p H' s ⟨?_⟩⟩⟩
        dsimp only at z
        rw [e1, e2] at z
        exact z
      · have h := of_decide_eq_false h
        have e : dvs t b = (Int.gcd t b : Int) := if_neg h
        rw [e] at d0 d1 e1 e2
        refine ⟨⟨d0,d1⟩,⟨⟨d0,d1⟩,fun p H' s z=>q p H' s ⟨?_⟩⟩⟩
        dsimp only at z
        rw [e1, e2] at z
        exact z
theorem none_back {H H':Hp} {D:Addr} (s:Same H H') (h:H' D = none):H D = none:=by
  cases e : H D with
  | none => rfl
  | some o =>
    rw [s _ _ e] at h
    cases h
theorem sq_small' {k:Int} (h0:0 ≤ k) (h1:k < 1000):0 ≤ k * k∧k * k < 1000000:=by
  have a := Int.mul_nonneg h0 h0
  have b:k * k ≤ k * 1000:=Int.mul_le_mul_of_nonneg_left (by omega) h0
  exact ⟨a, by omega⟩
theorem atI_last {α:Type} {xs:List α} {v:α} (h:xs.getLast? = some v):atI xs (-1) = some v:=by
  have h0 : xs ≠ [] := fun e => by simp [e] at h
  have hl : 0 < xs.length := List.length_pos_iff.mpr h0
  unfold atI ixN
  rw [if_neg (by decide), if_pos (by omega)]
  show xs[(xs.length + (-1 : Int)).toNat]? = some v
  rw [show (xs.length + (-1:Int)).toNat = xs.length - 1 by omega,← h,List.getLast?_eq_getElem?]
def btw (v : V) (lo hi : Int) : Bool := match v with
  | .int i => decide (lo ≤ i) && decide (i ≤ hi)
  | _ => false
def sp_is_between (K:PySem.W.Frag) (ns:List Int):Sp:=fun vs H Q _=>match vs with
  | [v,.int lo,.int hi]=>Kd H v∧Q (.bl (btw v lo hi)) H
  | _ => False
theorem sc_is_between:FnScope ["thing","least","most"] ["thing","least","most"] (defScope s_is_between):=⟨rfl,rfl,rfl,by decide +kernel,rfl,by decide +kernel,by decide +kernel⟩
theorem ok_is_between (d:Dfn K mg "is_between" s_is_between ["thing","least","most"]) (er:Errs K mg c_Capped c_Early c_NoTable c_Rested c_Rule)   (c_is_whole:Cal P w K mg base "is_whole" ["thing"] 1 (sp_is_whole K ns)):Cal P w K mg base "is_between" ["thing","least","most"] 2 (sp_is_between K ns):=by
  refine d.cal (k:=1) sc_is_between (fun vs H Q E h=>?_) (fun f cdv A outer s H vs Q E hr h=>?_)
  · match vs, h with
    | [v, .int lo, .int hi], _ => rfl
  · match vs, h with
    | [v, .int lo, .int hi], hq0 =>
      obtain ⟨kd, q⟩ := hq0
      refine ⟨_,(@pss_one _ _ _ (@ps_ret _ _ _ _ (@e_and _ _ _ _ _ _ _ (@e_call _ _ _ _ _ _ _ _ _ _ _ c_is_whole hr (by decide) (by rfl) (@pa_cons _ _ _ _ _ (dv 0) pa_nil (by rfl)) (by decide) (by rfl) (by rfl)) (@pe_one _ _ _ _ _ (@e_chain _ _ _ _ _ _ _ _ _ _ _ _ o_le o_le (dv 1) (dv 0) (dv 2) (by with_unfolding_all rfl)))))),?_⟩
      match v, kd, q with
      | .int i, _, q =>
        refine ⟨True.intro,⟨fun _=>⟨fun h=>?_,fun h=>?_⟩,fun h=>nb h⟩⟩
        · have e:btw (.int i) lo hi = decide (i ≤ hi):=by
            have h : decide (lo ≤ i) = true := h
            simp only [btw, h, Bool.true_and]
          rw [e] at q
          exact q
        · have e : btw (.int i) lo hi = false := by
            have h : decide (lo ≤ i) = false := h
            simp only [btw, h, Bool.false_and]
          rw [e] at q
          exact q
      | .bl _,kd,q=>exact ⟨kd,⟨fun h=>nb h,fun _=>q⟩⟩
      | .non,kd,q=>exact ⟨kd,⟨fun h=>nb h,fun _=>q⟩⟩
      | .str _,kd,q=>exact ⟨kd,⟨fun h=>nb h,fun _=>q⟩⟩
      | .ref _,kd,q=>exact ⟨kd,⟨fun h=>nb h,fun _=>q⟩⟩
      | .flt _, kd, _ => exact kd.elim
      | .byt _, kd, _ => exact kd.elim
      | .ty _, kd, _ => exact kd.elim
def NT (H : Hp) : V → Prop
  | .int _ => True
  | .bl _ => True
  | .non => True
  | .str _ => True
  | .ref p=>∃ u t,H p = some u∧tyHO u = some t∧tyB t "tuple" = some false∧tyB t "int" = some false
  | _ => False
theorem NT.up {H H':Hp} (s:Same H H'):∀ {v:V},NT H v→NT H' v
  | .int _, h => h
  | .bl _, h => h
  | .non, h => h
  | .str _, h => h
  | .ref p, ⟨u, t, h1, h2⟩ => ⟨u, t, s _ _ h1, h2⟩
  | .flt _, h => h.elim
  | .byt _, h => h.elim
  | .ty _, h => h.elim
def PrAt (H:Hp) (v:V) (b:Bool):Prop:=(∃ t xs,v = .ref t∧H t = some (.tup xs)∧xs.length ≤ 100∧b = decide ((xs.length:Int) = 2)) ∨ (NT H v∧b = false)
def sp_is_pair (K:PySem.W.Frag) (ns:List Int):Sp:=fun vs H Q _=>match vs with
  | [v] => ∃ b, PrAt H v b ∧ Q (.bl b) H
  | _ => False
theorem sc_is_pair:FnScope ["thing"] ["thing"] (defScope s_is_pair):=⟨rfl,rfl,rfl,by decide +kernel,rfl,by decide +kernel,by decide +kernel⟩
theorem ok_is_pair (d:Dfn K mg "is_pair" s_is_pair ["thing"]) (er:Errs K mg c_Capped c_Early c_NoTable c_Rested c_Rule) (n_len:mg "len" = none) (n_isinstance:mg "isinstance" = none) (n_tuple:mg "tuple" = none)  :Cal P w K mg base "is_pair" ["thing"] 1 (sp_is_pair K ns):=by
  refine d.cal (k:=0) sc_is_pair (fun vs H Q E h=>?_) (fun f cdv A outer s H vs Q E hr h=>?_)
  · match vs, h with
    | [_], _ => rfl
  · refine ⟨_,(@pss_one _ _ _ (@ps_ret _ _ _ _ (@e_and _ _ _ _ _ _ _ (@pe_callB _ _ _ _ _ _ _ _ _ c_isi (by rfl) n_isinstance (by decide +kernel) (@pa_cons _ _ _ _ _ (dv 0) (@pa_cons _ _ _ _ _ (e_ty "tuple" (by rfl) n_tuple (by decide +kernel)) pa_nil (by rfl)) (by rfl)) (by decide) (by decide) (by rfl) (by rfl)) (@pe_one _ _ _ _ _ (@pe_cmpR _ _ _ _ _ _ _ _ o_eq (@pe_callB _ _ _ _ _ _ _ _ _ c_len (by rfl) n_len (by decide +kernel) (@pa_cons _ _ _ _ _ (dv 0) pa_nil (by rfl)) (by decide) (by decide) (by rfl) (by rfl)) pe_int (@nomark _ _ (by decide) (by decide))))))),?_⟩
    match vs, h with
    | [.int _],⟨_,.inr ⟨_,rfl⟩,q⟩=>exact ⟨false,rfl,fun h=>nb h,fun _=>q⟩
    | [.bl _],⟨_,.inr ⟨_,rfl⟩,q⟩=>exact ⟨false,rfl,fun h=>nb h,fun _=>q⟩
    | [.non],⟨_,.inr ⟨_,rfl⟩,q⟩=>exact ⟨false,rfl,fun h=>nb h,fun _=>q⟩
    | [.str _],⟨_,.inr ⟨_,rfl⟩,q⟩=>exact ⟨false,rfl,fun h=>nb h,fun _=>q⟩
    | [.ref _],⟨_,.inr ⟨⟨u,t,h1,h2,h3,_⟩,rfl⟩,q⟩=>exact ⟨u,false,t,h1,h2,h3,fun h=>nb h,fun _=>q⟩
    | [.ref _],⟨_,.inl ⟨_,xs,rfl,h1,_,rfl⟩,q⟩=>exact ⟨_,true,_,h1,rfl,rfl,fun _=>⟨_,.inr (SqT.of h1),q⟩,fun h=>nb h⟩
    | [.flt _], ⟨_, .inr ⟨z, _⟩, _⟩ => exact z.elim
    | [.byt _], ⟨_, .inr ⟨z, _⟩, _⟩ => exact z.elim
    | [.ty _], ⟨_, .inr ⟨z, _⟩, _⟩ => exact z.elim
def two (a b : V) : Option (Int × Int) := match a, b with
  | .int p, .int q => some (p, q)
  | _, _ => none
def ShAt (H:Hp) (v:V) (o:Option (Int × Int)):Prop:=(∃ t a b,v = .ref t∧H t = some (.tup [a,b])∧Kd H a∧Kd H b∧o = two a b) ∨ (PrAt H v false∧o = none)
theorem PrAt.up {H H':Hp} {v:V} {b:Bool} (s:Same H H') (h:PrAt H v b):PrAt H' v b:=by
  rcases h with ⟨t, xs, a, e, z⟩ | ⟨a, e⟩
  · exact .inl ⟨t, xs, a, s _ _ e, z⟩
  · exact .inr ⟨a.up s, e⟩
theorem ShAt.up {H H':Hp} {v:V} {o:Option (Int × Int)} (s:Same H H') (h:ShAt H v o):ShAt H' v o:=by
  rcases h with ⟨t, a, b, e, h1, h2, h3, h4⟩ | ⟨a, e⟩
  · exact .inl ⟨t, a, b, e, s _ _ h1, h2.up s, h3.up s, h4⟩
  · exact .inr ⟨a.up s, e⟩
def shOk : Option (Int × Int) → Bool
  | some (p,q)=>decide (1 ≤ q∧q ≤ 9999∧0 ≤ p∧p ≤ q∧Int.gcd p q = 1)
  | none => false
theorem gcd1_low {p q:Int} (h:Int.gcd p q = 1):lowT p q = p∧lowB p q = q:=by
  unfold lowT lowB
  rw [h]
  exact ⟨Int.ediv_one _, Int.ediv_one _⟩
theorem fr_low {t b:Int} (hb:0 < b):frT t b = lowT t b∧frB t b = lowB t b:=by
  unfold frT frB
  rw [if_neg (by omega), if_neg (by omega)]
  exact ⟨rfl, rfl⟩
def qd (x : Q2) : PyData := .tuple [.int x.1, .int x.2]
theorem eqv_qd (p q:Q2):PyData.eqv (qd p) (qd q) = decide (p = q):=by
  show ((p.1 == q.1) && ((p.2 == q.2) && true)) = _
  obtain ⟨a, b⟩ := p
  obtain ⟨c, d⟩ := q
  rw [Bool.and_true]
  by_cases h1:a = c <;> by_cases h2:b = d <;> simp [h1,h2]
theorem btw_t {v:V} {lo hi:Int} (h:btw v lo hi = true):∃ i,v = .int i∧lo ≤ i∧i ≤ hi:=by
  cases v with
  | int i =>
    simp only [btw,Bool.and_eq_true,decide_eq_true_iff] at h
    exact ⟨i, rfl, h⟩
  | _ => exact nb h
theorem btw_f {v:V} {lo hi i:Int} (h:btw v lo hi = false) (e:v = .int i):¬ (lo ≤ i∧i ≤ hi):=fun c=>by
  subst e
  simp only [btw,decide_eq_true c.1,decide_eq_true c.2] at h
  exact nb h
theorem sh_low {p q:Int} (h1:1 ≤ q∧q ≤ 9999) (h2:0 ≤ p∧p ≤ q):shOk (some (p,q)) = decide (((frT p q,frB p q):Q2) = (p,q)):=by
  obtain ⟨e1, e2⟩ := fr_low (t := p) (b := q) (by omega)
  rw [e1, e2]
  refine decide_eq_decide.mpr ⟨fun h=>?_,fun h=>⟨h1.1,h1.2,h2.1,h2.2,?_⟩⟩
  · obtain ⟨a, b⟩ := gcd1_low h.2.2.2.2
    rw [a, b]
  · have hb : lowB p q = q := congrArg Prod.snd h
    have m := lowB_mul p q
    rw [hb] at m
    have:(Int.gcd p q:Int) = 1:=Int.eq_of_mul_eq_mul_left (show q ≠ 0 by omega) (by rw [m,Int.mul_one])
    omega
def sp_is_share (K:PySem.W.Frag) (ns:List Int):Sp:=fun vs H Q _=>match vs with
  | [v]=>∃ o,ShAt H v o∧∀ H',Same H H'→Q (.bl (shOk o)) H'
  | _ => False
theorem sc_is_share:FnScope ["thing"] ["thing"] (defScope s_is_share):=⟨rfl,rfl,rfl,by decide +kernel,rfl,by decide +kernel,by decide +kernel⟩
theorem ok_is_share (d:Dfn K mg "is_share" s_is_share ["thing"]) (er:Errs K mg c_Capped c_Early c_NoTable c_Rested c_Rule)  (v_MOST_PART:Cst mg "MOST_PART" (.int (9999))) (c_fraction:Cal P w K mg base "fraction" ["top","bottom"] 2 (sp_fraction K ns)) (c_is_between:Cal P w K mg base "is_between" ["thing","least","most"] 2 (sp_is_between K ns)) (c_is_pair:Cal P w K mg base "is_pair" ["thing"] 1 (sp_is_pair K ns)):Cal P w K mg base "is_share" ["thing"] 3 (sp_is_share K ns):=by
  refine d.cal (k:=2) sc_is_share (fun vs H Q E h=>?_) (fun f cdv A outer s H vs Q E hr h=>?_)
  · match vs, h with
    | [v], _ => rfl
  · match vs, h with
    | [v], hq0 =>
      obtain ⟨o, hv, k⟩ := hq0
      refine ⟨_,(@pss_cons _ _ _ _ _ (@s_if _ _ _ _ _ _ _ _ (@L2.PW.pt _ _ _ (@w_or _ _ _ _ _ _ _ (@pt_not _ _ _ _ (@t_val _ _ _ (@e_call _ _ _ _ _ _ _ _ _ _ _ c_is_pair hr (by decide) (by rfl) (@pa_cons _ _ _ _ _ (dv 0) pa_nil (by rfl)) (by decide) (by rfl) (by rfl)) (by intro _; rfl))) (@w_or _ _ _ _ _ _ _ (@pt_not _ _ _ _ (@t_val _ _ _ (@e_call _ _ _ _ _ _ _ _ _ _ _ c_is_between hr (by decide) (by rfl) (@pa_cons _ _ _ _ _ (@pe_ix _ _ _ _ _ _ _ i_tup (dv 0) pe_int (fun _ _=>rfl)) (@pa_cons _ _ _ _ _ pe_int (@pa_cons _ _ _ _ _ (g_cst v_MOST_PART (by rfl)) pa_nil (by rfl)) (by rfl)) (by rfl)) (by decide) (by rfl) (by rfl)) (by intro _; rfl))) (@pw_or1 _ _ _ _ (@pt_not _ _ _ _ (@t_val _ _ _ (@e_call _ _ _ _ _ _ _ _ _ _ _ c_is_between hr (by decide) (by rfl) (@pa_cons _ _ _ _ _ (@pe_ix _ _ _ _ _ _ _ i_tup (dv 0) pe_int (fun _ _=>rfl)) (@pa_cons _ _ _ _ _ pe_int (@pa_cons _ _ _ _ _ (@pe_ix _ _ _ _ _ _ _ i_tup (dv 0) pe_int (fun _ _=>rfl)) pa_nil (by rfl)) (by rfl)) (by rfl)) (by decide) (by rfl) (by rfl)) (by intro _; rfl))))))) (@pss_one _ _ _ (@ps_ret _ _ _ _ pe_bl)) pss_nil) (@pss_one _ _ _ (@ps_ret _ _ _ _ (@pe_cmpR _ _ _ _ _ _ _ _ (@o_eqD _ hr.units) (@e_call _ _ _ _ _ _ _ _ _ _ _ c_fraction hr (by decide) (by rfl) (@pa_cons _ _ _ _ _ (@pe_ix _ _ _ _ _ _ _ i_tup (dv 0) pe_int (fun _ _=>rfl)) (@pa_cons _ _ _ _ _ (@pe_ix _ _ _ _ _ _ _ i_tup (dv 0) pe_int (fun _ _=>rfl)) pa_nil (by rfl)) (by rfl)) (by decide) (by rfl) (by rfl)) (dv 0) (@nomark _ _ (by decide) (by decide)))))),?_⟩
      rcases hv with ⟨t,a,b,rfl,e,ka,kb,rfl⟩ | ⟨h,rfl⟩
      case' inr=>exact ⟨false,h,⟨fun _=>⟨fun _=>k _ (Same.refl _),fun h=>nb h⟩,fun h=>nb h⟩⟩
      refine ⟨true,.inl ⟨t,_,rfl,e,(show 2 ≤ 100 by decide),rfl⟩,⟨fun h=>nb h,fun _=>⟨_,e,kb,⟨fun h=>⟨fun _=>?_,fun h=>nb h⟩,fun h=>?_⟩⟩⟩⟩
      · have h : btw b 1 9999 = false := by simpa using h
        have e : shOk (two a b) = false := by
          unfold two
          split
          · have := btw_f h rfl
            exact decide_eq_false fun c => this ⟨c.1, c.2.1⟩
          · rfl
        rw [e] at k
        exact k _ (Same.refl _)
      have h : btw b 1 9999 = true := by simpa using h
      obtain ⟨q, rfl, q1, q2⟩ := btw_t h
      refine ⟨_, e, _, e, ka, ⟨fun h => ?_, fun h => ?_⟩⟩
      · have h : btw a 0 q = false := by simpa using h
        have e : shOk (two a (.int q)) = false := by
          cases a with
          | int p =>
            have := btw_f h rfl
            exact decide_eq_false fun c=>this ⟨c.2.2.1,c.2.2.2.1⟩
          | _ => rfl
        rw [e] at k
        exact k _ (Same.refl _)
      have h' : btw a 0 q = true := by simpa using h
      clear h
      obtain ⟨p, ea, p1, p2⟩ := btw_t h'
      subst ea
      refine ⟨_,e,_,e,⟨by omega,bd_of (b:=9999) (by omega) (by omega) (bd_lit rfl)⟩,fun r H' s' f=>⟨qd (frT p q,frB p q),qd (p,q),.tup (SqT.of f.at') (.cons (.int _) (.cons (.int _) .nil)),.tup (SqT.of (s' _ _ e)) (.cons (.int _) (.cons (.int _) .nil)),rfl,rfl,?_⟩⟩
      have k := k H' s'
      rw [show two (.int p) (.int q) = some (p,q) from rfl,sh_low ⟨q1,q2⟩ ⟨p1,p2⟩] at k
      rw [eqv_qd]
      exact k
def thr (a:V) (o:Option (Int × Int)):Option (Int × Int × Int):=match a,o with
  | .int s, some (p, q) => some (s, p, q)
  | _, _ => none
def RwAt (H:Hp) (v:V) (o:Option (Int × Int × Int)):Prop:=(∃ t a b so,v = .ref t∧H t = some (.tup [a,b])∧Kd H a∧ShAt H b so∧o = thr a so) ∨ (PrAt H v false∧o = none)
theorem RwAt.up {H H':Hp} {v:V} {o:Option (Int × Int × Int)} (s:Same H H') (h:RwAt H v o):RwAt H' v o:=by
  rcases h with ⟨t, a, b, so, e, h1, h2, h3, h4⟩ | ⟨a, e⟩
  · exact .inl ⟨t,a,b,so,e,s _ _ h1,h2.up s,h3.up s,h4⟩
  · exact .inr ⟨a.up s, e⟩
def rowOk : Option (Int × Int × Int) → Bool
  | some (s,p,q)=>decide (0 ≤ s∧s ≤ 1000000) && shOk (some (p,q))
  | none => false
def sp_is_row (K:PySem.W.Frag) (ns:List Int):Sp:=fun vs H Q _=>match vs with
  | [v]=>∃ o,RwAt H v o∧∀ H',Same H H'→Q (.bl (rowOk o)) H'
  | _ => False
theorem sc_is_row:FnScope ["thing"] ["thing"] (defScope s_is_row):=⟨rfl,rfl,rfl,by decide +kernel,rfl,by decide +kernel,by decide +kernel⟩
theorem ok_is_row (d:Dfn K mg "is_row" s_is_row ["thing"]) (er:Errs K mg c_Capped c_Early c_NoTable c_Rested c_Rule)  (v_LAST_FROM:Cst mg "LAST_FROM" (.int (1000000))) (c_is_share:Cal P w K mg base "is_share" ["thing"] 3 (sp_is_share K ns)) (c_is_between:Cal P w K mg base "is_between" ["thing","least","most"] 2 (sp_is_between K ns)) (c_is_pair:Cal P w K mg base "is_pair" ["thing"] 1 (sp_is_pair K ns)):Cal P w K mg base "is_row" ["thing"] 4 (sp_is_row K ns):=by
  refine d.cal (k:=3) sc_is_row (fun vs H Q E h=>?_) (fun f cdv A outer s H vs Q E hr h=>?_)
  · match vs, h with
    | [v], _ => rfl
  · match vs, h with
    | [v], hq0 =>
      obtain ⟨o, hv, k⟩ := hq0
      refine ⟨_,(@pss_one _ _ _ (@ps_ret _ _ _ _ (@e_and _ _ _ _ _ _ _ (@e_call _ _ _ _ _ _ _ _ _ _ _ c_is_pair hr (by decide) (by rfl) (@pa_cons _ _ _ _ _ (dv 0) pa_nil (by rfl)) (by decide) (by rfl) (by rfl)) (@e_and _ _ _ _ _ _ _ (@e_call _ _ _ _ _ _ _ _ _ _ _ c_is_between hr (by decide) (by rfl) (@pa_cons _ _ _ _ _ (@pe_ix _ _ _ _ _ _ _ i_tup (dv 0) pe_int (fun _ _=>rfl)) (@pa_cons _ _ _ _ _ pe_int (@pa_cons _ _ _ _ _ (g_cst v_LAST_FROM (by rfl)) pa_nil (by rfl)) (by rfl)) (by rfl)) (by decide) (by rfl) (by rfl)) (@pe_one _ _ _ _ _ (@e_call _ _ _ _ _ _ _ _ _ _ _ c_is_share hr (by decide) (by rfl) (@pa_cons _ _ _ _ _ (@pe_ix _ _ _ _ _ _ _ i_tup (dv 0) pe_int (fun _ _=>rfl)) pa_nil (by rfl)) (by decide) (by rfl) (by rfl))))))),?_⟩
      rcases hv with ⟨t,a,b,so,rfl,e,ka,sb,rfl⟩ | ⟨h,rfl⟩
      case' inr=>exact ⟨false,h,⟨fun h=>nb h,fun _=>k _ (Same.refl _)⟩⟩
      refine ⟨true,.inl ⟨t,_,rfl,e,(show 2 ≤ 100 by decide),rfl⟩,⟨fun _=>⟨_,e,ka,⟨fun h=>?_,fun h=>?_⟩⟩,fun h=>nb h⟩⟩
      rotate_left
      · have h : btw a 0 1000000 = false := h
        have e : rowOk (thr a so) = false := by
          unfold thr
          split
          · have := btw_f h rfl
            show (decide _ && _) = false
            rw [decide_eq_false this]
            rfl
          · rfl
        rw [e] at k
        exact k _ (Same.refl _)
      have h : btw a 0 1000000 = true := h
      obtain ⟨s', rfl, q1, q2⟩ := btw_t h
      refine ⟨_, e, so, sb, fun H' s1 => ?_⟩
      have k := k H' s1
      have e : rowOk (thr (.int s') so) = shOk so := by
        unfold thr
        cases so with
        | none => rfl
        | some pq =>
          obtain ⟨p, q⟩ := pq
          show (decide (0 ≤ s'∧s' ≤ 1000000) && shOk (some (p,q))) = _
          rw [decide_eq_true ⟨q1, q2⟩, Bool.true_and]
      rw [e] at k
      exact k
def RoAt (H:Hp) (v:V) (r:Int × Int × Int):Prop:=∃ t u,v = .ref t∧H t = some (.tup [.int r.1,.ref u])∧H u = some (.tup [.int r.2.1,.int r.2.2])
theorem ro_up (v:V) (r:Int × Int × Int) (H H':Hp) (k:Kt H H') (h:RoAt H v r):RoAt H' v r:=by
  obtain ⟨t, u, e, h1, h2⟩ := h
  exact ⟨t, u, e, k _ _ h1, k _ _ h2⟩
theorem RwAt.ro {H:Hp} {v:V} {r:Int × Int × Int} (h:RwAt H v (some r)):RoAt H v r:=by
  rcases h with ⟨t, a, b, so, e, h1, h2, h3, h4⟩ | ⟨_, e⟩
  · unfold thr at h4
    split at h4
    · rename_i s p q
      cases h4
      rcases h3 with ⟨u, x, y, e', g1, _, _, g4⟩ | ⟨_, e'⟩
      · unfold two at g4
        split at g4
        · cases g4
          subst e'
          exact ⟨t, u, e, h1, g1⟩
        · cases g4
      · cases e'
    · cases h4
  · cases e
theorem RoAt.rw {H:Hp} {v:V} {r:Int × Int × Int} (h:RoAt H v r):RwAt H v (some r):=by
  obtain ⟨t, u, e, h1, h2⟩ := h
  exact .inl ⟨t,_,_,some (r.2.1,r.2.2),e,h1,trivial,.inl ⟨u,_,_,rfl,h2,trivial,trivial,rfl⟩,rfl⟩
def goR (a b:Int × Int × Int):Bool:=decide (a.1 < b.1) && decide (¬ b.2.1 * a.2.2 < a.2.1 * b.2.2)
def sp_under (K:PySem.W.Frag) (ns:List Int):Sp:=fun vs H Q _=>match vs with
  | [.ref a,.ref b]=>∃ p q p' q':Int,(H a = some (.tup [.int p,.int q])∧H b = some (.tup [.int p',.int q']))∧(Bd 1900 p∧Bd 1900 q∧Bd 1900 p'∧Bd 1900 q')∧Q (.bl (decide (p * q' < p' * q))) H
  | _ => False
theorem sc_under:FnScope ["one","other"] ["one","other"] (defScope s_under):=⟨rfl,rfl,rfl,by decide +kernel,rfl,by decide +kernel,by decide +kernel⟩
theorem ok_under (d:Dfn K mg "under" s_under ["one","other"]) (er:Errs K mg c_Capped c_Early c_NoTable c_Rested c_Rule)   :Cal P w K mg base "under" ["one","other"] 1 (sp_under K ns):=by
  refine d.cal (k:=0) sc_under (fun vs H Q E h=>?_) (fun f cdv A outer s H vs Q E hr h=>?_)
  · match vs, h with
    | [.ref a, .ref b], _ => rfl
  · match vs, h with
    | [.ref a, .ref b], hq0 =>
      obtain ⟨p,q,p',q',⟨ha,hb⟩,⟨b1,b2,b3,b4⟩,k⟩:=hq0
      refine ⟨_,(@pss_one _ _ _ (@ps_ret _ _ _ _ (@pe_cmpR _ _ _ _ _ _ _ _ o_lt (@pe_op _ _ _ _ _ _ _ _ o_mul (@pe_ix _ _ _ _ _ _ _ i_tup (dv 0) pe_int (fun _ _=>rfl)) (@pe_ix _ _ _ _ _ _ _ i_tup (dv 1) pe_int (fun _ _=>rfl))) (@pe_op _ _ _ _ _ _ _ _ o_mul (@pe_ix _ _ _ _ _ _ _ i_tup (dv 1) pe_int (fun _ _=>rfl)) (@pe_ix _ _ _ _ _ _ _ i_tup (dv 0) pe_int (fun _ _=>rfl))) (@nomark _ _ (by decide) (by decide))))),?_⟩
      exact ⟨_,ha,_,hb,cok b1 b4 (by decide) (by decide),_,hb,_,ha,cok b3 b2 (by decide) (by decide),k⟩
def sp_goes_on (K:PySem.W.Frag) (ns:List Int):Sp:=fun vs H Q _=>match vs with
  | [v,u]=>∃ a b,(RoAt H v a∧RoAt H u b)∧(Bd 20 a.2.1∧Bd 20 a.2.2∧Bd 20 b.2.1∧Bd 20 b.2.2)∧Q (.bl (goR a b)) H
  | _ => False
theorem sc_goes_on:FnScope ["row","later"] ["row","later"] (defScope s_goes_on):=⟨rfl,rfl,rfl,by decide +kernel,rfl,by decide +kernel,by decide +kernel⟩
theorem ok_goes_on (d:Dfn K mg "goes_on" s_goes_on ["row","later"]) (er:Errs K mg c_Capped c_Early c_NoTable c_Rested c_Rule)   (c_under:Cal P w K mg base "under" ["one","other"] 1 (sp_under K ns)):Cal P w K mg base "goes_on" ["row","later"] 2 (sp_goes_on K ns):=by
  refine d.cal (k:=1) sc_goes_on (fun vs H Q E h=>?_) (fun f cdv A outer s H vs Q E hr h=>?_)
  · match vs, h with
    | [v, u], _ => rfl
  · match vs, h with
    | [v, u], hq0 =>
      obtain ⟨a,b,⟨⟨t,x,ev,h1,h2⟩,⟨t',x',eu,h1',h2'⟩⟩,⟨b1,b2,b3,b4⟩,k⟩:=hq0
      refine ⟨_,(@pss_one _ _ _ (@ps_ret _ _ _ _ (@e_and _ _ _ _ _ _ _ (@pe_cmpR _ _ _ _ _ _ _ _ o_lt (@pe_ix _ _ _ _ _ _ _ i_tup (dv 0) pe_int (fun _ _=>rfl)) (@pe_ix _ _ _ _ _ _ _ i_tup (dv 1) pe_int (fun _ _=>rfl)) (@nomark _ _ (by decide) (by decide))) (@pe_one _ _ _ _ _ (@e_not _ _ _ _ (@e_call _ _ _ _ _ _ _ _ _ _ _ c_under hr (by decide) (by rfl) (@pa_cons _ _ _ _ _ (@pe_ix _ _ _ _ _ _ _ i_tup (dv 1) pe_int (fun _ _=>rfl)) (@pa_cons _ _ _ _ _ (@pe_ix _ _ _ _ _ _ _ i_tup (dv 0) pe_int (fun _ _=>rfl)) pa_nil (by rfl)) (by rfl)) (by decide) (by rfl) (by rfl))))))),?_⟩
      subst ev
      subst eu
      refine ⟨_,h1,_,h1',⟨fun h=>⟨_,h1',_,h1,_,_,_,_,⟨h2',h2⟩,⟨b3.mono (by decide),b4.mono (by decide),b1.mono (by decide),b2.mono (by decide)⟩,?_⟩,fun h=>?_⟩⟩
      · have h : decide (a.1 < b.1) = true := h
        have e:goR a b = !decide (b.2.1 * a.2.2 < a.2.1 * b.2.2):=by
          unfold goR
          rw [h, Bool.true_and, decide_not]
        rw [e] at k
        exact k
      · have h : decide (a.1 < b.1) = false := h
        have e : goR a b = false := by
          unfold goR
          rw [h, Bool.false_and]
        rw [e] at k
        exact k
def chn : List (Int × Int × Int) → Bool
  | a :: b :: l => goR a b && chn (b :: l)
  | _ => true
def GoodT (rows:List (Int × Int × Int)):Prop:=(1 ≤ rows.length∧rows.length ≤ 10)∧(∀ r ∈ rows,rowOk (some r) = true)∧rows[0]? = some (0,1,2)∧chn rows = true
def BadT (os:List (Option (Int × Int × Int))):Prop:=¬ ∃ rows,os = rows.map some∧GoodT rows
def rd3 (r:Int × Int × Int):PyData:=.tuple [.int r.1,.tuple [.int r.2.1,.int r.2.2]]
theorem rp_ro {K:PySem.W.Frag} {H:Hp} {v:V} {r:Int × Int × Int} (h:RoAt H v r):Rp K H v (rd3 r):=by
  obtain ⟨t, u, e, h1, h2⟩ := h
  subst e
  exact .tup (SqT.of h1) (.cons (.int _) (.cons (.tup (SqT.of h2) (.cons (.int _) (.cons (.int _) .nil))) .nil))
theorem eqv_rd3 (p q:Int × Int × Int):PyData.eqv (rd3 p) (rd3 q) = decide (p = q):=by
  show ((p.1 == q.1) && (((p.2.1 == q.2.1) && ((p.2.2 == q.2.2) && true)) && true)) = _
  obtain ⟨a, b, c⟩ := p
  obtain ⟨a', b', c'⟩ := q
  by_cases h1:a = a' <;> by_cases h2:b = b' <;> by_cases h3:c = c' <;> simp [h1,h2,h3]
def NL (H : Hp) : V → Prop
  | .int _ => True
  | .bl _ => True
  | .non => True
  | .str _ => True
  | .ref p=>∃ u t,H p = some u∧tyHO u = some t∧tyB t "list" = some false
  | _ => False
def TbAt (H:Hp) (v:V) (os:Option (List (Option (Int × Int × Int)))):Prop:=(∃ l vs os',v = .ref l∧H l = some (.lst vs)∧vs.length ≤ 100∧All2 (RwAt H) vs os'∧os = some os') ∨ (NL H v∧os = none)
theorem comp_zipR {β:Type} {K:PySem.W.Frag} {a b:Addr} {xs ys:List V} {ms:List β} {g:TG} {te:TE} {k:Nat} {js:List Nat} {σ:L2.St} {H1:Hp} {Q:VK} (M:Hp→V→V→β→Prop) (upM:∀ v u m H H',Kt H H'→M H v u m→M H' v u m) (R:Hp→β→V→Prop) (up:∀ m y H H',Kt H H'→R H m y→R H' m y)
    (hz:ms.length ≤ 1000) (hx:SqL K H1 a xs) (hy:SqL K H1 b ys) (lx:ms.length ≤ xs.length) (ly:ys.length = ms.length) (hm:∀ (i:Nat) x y m,xs[i]? = some x→ys[i]? = some y→ms[i]? = some m→M H1 x y m)
    (hs:∀ x y m t H2,M H2 x y m→m ∈ ms→Same H1 H2→H2 t = some (.tup [x,y])→∀ P:VK,(∀ y H3,Same H2 H3→R H3 m y→P y H3)→g (.ref t) (List.replicate k none ++ capσ js σ) H2 fun σ2 H3=>σ2.drop k = capσ js σ∧te σ2 H3 P)
    (hq:∀ D H' zs,Same H1 H'→H1 D = none→H' D = some (.lst zs)→All2 (R H') ms zs→Q (.ref D) H'):CGoal (Itz true true K a b) g te k js σ H1 Q:=by
  unfold CGoal
  intro D hD
  refine ⟨fun i m H=>m = ms.length - i∧i ≤ ms.length∧Same H1 H∧∃ zs,H D = some (.lst zs)∧All2 (R H) (ms.take i) zs,⟨ms.length,by simp,Nat.zero_le _,same_upd hD,[],upd_same,.nil⟩,?_⟩
  rintro i m H ⟨rfl, hi, sm, zs, hH, ar⟩
  have sq1 : SqK true K H a xs := sm.seq hx
  have sq2 : SqK true K H b ys := sm.seq hy
  by_cases hlt : i < ms.length
  · have e1:xs[i]? = some (xs[i]'(by omega)):=List.getElem?_eq_getElem _
    have e2:ys[i]? = some (ys[i]'(by omega)):=List.getElem?_eq_getElem _
    have e3:ms[i]? = some ms[i]:=List.getElem?_eq_getElem _
    refine .inr ⟨⟨xs,ys,_,_,sq1,sq2,e1,e2⟩,fun v H' yl=>?_⟩
    obtain ⟨t, x, y, rfl, ht, rfl, y1, y2⟩ := yl
    have st : Same H (upd H t (.tup [x, y])) := same_upd ht
    have et:upd H t (.tup [x,y]) t = some (.tup [x,y]):=upd_same
    generalize upd H t (.tup [x, y]) = H2 at st et
    have hH := st _ _ hH
    have s2 := sm.trans st
    have hM := hm i x y _ (y1 xs sq1) (y2 ys sq2) e3
    refine hs x y _ t H2 (upM _ _ _ _ _ (kt_of s2) hM) (List.mem_of_getElem? e3) s2 et _ fun u H3 s3 r3=>⟨zs,s3 _ _ hH,?_,ms.length - (i + 1),by omega,rfl,hlt,same_app' (s2.trans s3) hD,zs ++ [u],upd_same,?_⟩
    · rw [← ar.len, List.length_take]
      exact Nat.lt_of_le_of_lt (Nat.min_le_left _ _) (Nat.lt_of_lt_of_le hlt (Nat.le_trans hz (by decide)))
    · have kt:Kt H3 (upd H3 D (.lst (zs ++ [u]))):=kt_upd (s3 _ _ hH)
      rw [List.take_add_one, e3]
      exact (ar.imp fun v y r=>up v y _ _ ((kt_of (st.trans s3)).trans kt) r).snoc (up _ _ _ _ kt r3)
  · have e : i = ms.length := by omega
    subst e
    rw [List.take_length] at ar
    exact .inl ⟨⟨xs,ys,sq1,sq2,.inr (by omega)⟩,hq D _ zs sm hD hH ar⟩
theorem a2_bl {α:Type} {f:α→Bool}:∀ {l:List α} {ys:List V},All2 (fun o y=>y = V.bl (f o)) l ys→ys = (l.map f).map V.bl
  | _, _, .nil => rfl
  | _, _, .cons h t => by rw [h, a2_bl t]; rfl
theorem all_some:∀ {os:List (Option (Int × Int × Int))},(os.map rowOk).all id = true→∃ rows:List (Int × Int × Int),os = rows.map some∧∀ r ∈ rows,rowOk (some r) = true
  | [], _ => ⟨[], rfl, fun r h => absurd h (by simp)⟩
  | o :: os, h => by
    rw [List.map_cons, List.all_cons, Bool.and_eq_true] at h
    obtain ⟨rows, e, hr⟩ := all_some h.2
    cases o with
    | none => exact nb h.1
    | some r =>
      refine ⟨r :: rows, by rw [e]; rfl, fun x hx => ?_⟩
      rcases List.mem_cons.mp hx with rfl | hx
      · exact h.1
      · exact hr x hx
theorem all_ok {rows:List (Int × Int × Int)} (h:∀ r ∈ rows,rowOk (some r) = true):((rows.map some).map rowOk).all id = true:=by
  rw [List.all_eq_true]
  intro b hb
  obtain ⟨o, ho, rfl⟩ := List.mem_map.mp hb
  obtain ⟨r, hr, rfl⟩ := List.mem_map.mp ho
  exact h r hr
theorem map_some_inj {α:Type}:∀ {l m:List α},l.map some = m.map some→l = m
  | [], [], _ => rfl
  | [], _ :: _, h => by simp at h
  | _ :: _, [], h => by simp at h
  | a :: l, b :: m, h => by
    rw [List.map_cons, List.map_cons] at h
    injection h with h1 h2
    cases h1
    rw [map_some_inj h2]
theorem a2_ro {H:Hp}:∀ {vs:List V} {rows:List (Int × Int × Int)},All2 (RwAt H) vs (rows.map some)→All2 (RoAt H) vs rows
  | [], [], _ => .nil
  | _ :: _, [], h => by cases h
  | [], _ :: _, h => by cases h
  | v :: vs, r :: rows, .cons h t => .cons h.ro (a2_ro t)
theorem a2_rw {H:Hp}:∀ {vs:List V} {rows:List (Int × Int × Int)},All2 (RoAt H) vs rows→All2 (RwAt H) vs (rows.map some)
  | _, _, .nil => .nil
  | _, _, .cons h t => .cons h.rw (a2_rw t)
theorem chn_zip:∀ (rows:List (Int × Int × Int)),chn rows = ((rows.zip (rows.drop 1)).map fun m=>goR m.1 m.2).all id
  | [] => rfl
  | [_] => rfl
  | a :: b :: l => by
    show (goR a b && chn (b :: l)) = _
    rw [chn_zip (b :: l)]
    rfl
theorem cut_drop {xs:List V} {j:Nat} (h:j ≤ xs.length):cutV xs (some (j:Int)) none = xs.drop j:=by
  unfold cutV
  rw [HT.sIx_none, HT.sIx_nat, Nat.min_eq_left h]
  apply List.take_of_length_le
  rw [List.length_drop]
  exact Nat.le_refl _
theorem row_bd {r:Int × Int × Int} (h:rowOk (some r) = true):(0 ≤ r.1∧r.1 ≤ 1000000)∧(1 ≤ r.2.2∧r.2.2 ≤ 9999∧0 ≤ r.2.1∧r.2.1 ≤ r.2.2∧Int.gcd r.2.1 r.2.2 = 1):=by
  obtain ⟨s, p, q⟩ := r
  have h:(decide (0 ≤ s∧s ≤ 1000000) && shOk (some (p,q))) = true:=h
  rw [Bool.and_eq_true] at h
  exact ⟨of_decide_eq_true h.1, of_decide_eq_true h.2⟩
def sp_table_of (K:PySem.W.Frag) (ns:List Int):Sp:=fun vs H Q E=>match vs with
  | [v]=>∃ os,TbAt H v os∧((∀ os',os = some os'→BadT os')→∀ H',Same H H'→ExN K "NoTable" E H')∧(∀ rows vs l,v = .ref l→H l = some (.lst vs)→os = some (rows.map some)→GoodT rows→∀ D H',Same H H'→H D = none→H' D = some (.lst vs)→Q (.ref D) H')
  | _ => False
theorem sc_table_of:FnScope ["rows"] ["rows"] (defScope s_table_of):=⟨rfl,rfl,rfl,by decide +kernel,rfl,by decide +kernel,by decide +kernel⟩
theorem ok_table_of (d:Dfn K mg "table_of" s_table_of ["rows"]) (er:Errs K mg c_Capped c_Early c_NoTable c_Rested c_Rule) (n_list:mg "list" = none) (n_all:mg "all" = none) (n_zip:mg "zip" = none) (n_len:mg "len" = none) (n_isinstance:mg "isinstance" = none) (v_FIRST_ROW:Cst mg "FIRST_ROW" (.ref a_FIRST_ROW)) (w_FIRST_ROW:TupD K a_FIRST_ROW [.int (0),.ref b_FIRST_ROW_1]) (w_FIRST_ROW_1:TupD K b_FIRST_ROW_1 [.int (1),.int (2)]) (v_MOST_ROWS:Cst mg "MOST_ROWS" (.int (10))) (c_goes_on:Cal P w K mg base "goes_on" ["row","later"] 2 (sp_goes_on K ns)) (c_is_row:Cal P w K mg base "is_row" ["thing"] 4 (sp_is_row K ns)):Cal P w K mg base "table_of" ["rows"] 5 (sp_table_of K ns):=by
  refine d.calX (k:=4) sc_table_of (fun vs H Q E h=>?_) (fun f cdv A outer s H vs Q E hr h=>?_)
  · match vs, h with
    | [v], _ => rfl
  · match vs, h with
    | [v], hq0 =>
      obtain ⟨os, hv, ex, k⟩ := hq0
      refine ⟨_,(@pss_cons _ _ _ _ _ (@s_if _ _ _ _ _ _ _ _ (@L2.PW.pt _ _ _ (@w_or _ _ _ _ _ _ _ (@pt_not _ _ _ _ (@t_val _ _ _ (@pe_callB _ _ _ _ _ _ _ _ _ c_isi (by rfl) n_isinstance (by decide +kernel) (@pa_cons _ _ _ _ _ (dv 0) (@pa_cons _ _ _ _ _ (e_ty "list" (by rfl) n_list (by decide +kernel)) pa_nil (by rfl)) (by rfl)) (by decide) (by decide) (by rfl) (by rfl)) (by intro _; rfl))) (@pw_or1 _ _ _ _ (@pt_not _ _ _ _ (@t_chain _ _ _ _ _ _ _ _ _ _ _ _ o_le o_le pe_int (@pe_callB _ _ _ _ _ _ _ _ _ c_len (by rfl) n_len (by decide +kernel) (@pa_cons _ _ _ _ _ (dv 0) pa_nil (by rfl)) (by decide) (by decide) (by rfl) (by rfl)) (g_cst v_MOST_ROWS (by rfl)) (by with_unfolding_all rfl)))))) (@pss_one _ _ _ (@ps_raise _ _ _ _ _ _ _ _ _ _ _ _ _ _ _ _ _ _ _ _ _ _ _ er.b_NoTable er.x_NoTable (by rfl) (by decide))) pss_nil) (@pss_cons _ _ _ _ _ (@s_if _ _ _ _ _ _ _ _ (@pt_not _ _ _ _ (@t_val _ _ _ (@pe_callB _ _ _ _ _ _ _ _ _ (@c_all _ rfl) (by rfl) n_all (by decide +kernel) (@pa_cons _ _ _ _ _ (@e_compN _ _ _ _ _ _ _ _ _ _ ["row"] [] [] rfl (@pi_list _ _ _ _ (dv 0)) (fun C s H fp=>(@pg_name _ _ (0) _ (show List.Nodup [("row":Str)] by decide +kernel) rfl (by first | exact Or.inl rfl | exact Or.inr rfl) (by first | exact .inl rfl | exact .inr rfl | assumption))) (fun C s H fp=>(@e_call _ _ _ _ _ _ _ _ _ _ _ c_is_row hr (by decide) (by rfl) (@pa_cons _ _ _ _ _ (dv 0) pa_nil (by rfl)) (by decide) (by rfl) (by rfl))) rfl rfl (by decide +kernel) (by decide +kernel) (by rfl) True.intro True.intro (by intro _; rfl)) pa_nil (by rfl)) (by decide) (by decide) (by rfl) (by rfl)) (by intro _; rfl))) (@pss_one _ _ _ (@ps_raise _ _ _ _ _ _ _ _ _ _ _ _ _ _ _ _ _ _ _ _ _ _ _ er.b_NoTable er.x_NoTable (by rfl) (by decide))) pss_nil) (@pss_cons _ _ _ _ _ (@s_if _ _ _ _ _ _ _ _ (@t_cmp _ _ _ _ _ _ _ _ (@o_neD _ hr.units) (@pe_ix _ _ _ _ _ _ _ i_lst (dv 0) pe_int (fun _ _=>rfl)) (g_cst v_FIRST_ROW (by rfl)) (@nomark _ _ (by decide) (by decide))) (@pss_one _ _ _ (@ps_raise _ _ _ _ _ _ _ _ _ _ _ _ _ _ _ _ _ _ _ _ _ _ _ er.b_NoTable er.x_NoTable (by rfl) (by decide))) pss_nil) (@pss_cons _ _ _ _ _ (@s_if _ _ _ _ _ _ _ _ (@pt_not _ _ _ _ (@t_val _ _ _ (@pe_callB _ _ _ _ _ _ _ _ _ (@c_all _ rfl) (by rfl) n_all (by decide +kernel) (@pa_cons _ _ _ _ _ (@e_compN _ _ _ _ _ _ _ _ _ _ ["row","later"] [] [] rfl (@pi_zip _ true true _ _ _ _ _ _ _ _ (by rfl) n_zip (@pa_cons _ _ _ _ _ (dv 0) (@pa_cons _ _ _ _ _ (@pe_slice _ _ _ _ _ _ _ _ _ _ sl_lst (dv 0) (po_some pe_int) po_none) pa_nil (by rfl)) (by rfl)) (by rfl) (by rfl)) (fun C s H fp=>(show PG _ _ (gTup K 2 _) from pg_tup rfl (pgs_cons (pg_name (i:=0) (show List.Nodup [("row":Str),("later":Str)] by decide +kernel) rfl (by first | exact Or.inl rfl | exact Or.inr rfl)) (pgs_cons (pg_name (i:=1) (show List.Nodup [("row":Str),("later":Str)] by decide +kernel) rfl (by first | exact Or.inl rfl | exact Or.inr rfl)) pgs_nil)))) (fun C s H fp=>(@e_call _ _ _ _ _ _ _ _ _ _ _ c_goes_on hr (by decide) (by rfl) (@pa_cons _ _ _ _ _ (dv 0) (@pa_cons _ _ _ _ _ (dv 1) pa_nil (by rfl)) (by rfl)) (by decide) (by rfl) (by rfl))) rfl rfl (by decide +kernel) (by decide +kernel) (by rfl) True.intro True.intro (by intro _; rfl)) pa_nil (by rfl)) (by decide) (by decide) (by rfl) (by rfl)) (by intro _; rfl))) (@pss_one _ _ _ (@ps_raise _ _ _ _ _ _ _ _ _ _ _ _ _ _ _ _ _ _ _ _ _ _ _ er.b_NoTable er.x_NoTable (by rfl) (by decide))) pss_nil) (@pss_one _ _ _ (@ps_ret _ _ _ _ (@pe_callTy _ _ _ _ _ _ _ _ _ c_listN (by rfl) n_list (by decide +kernel) (@pa_cons _ _ _ _ _ (dv 0) pa_nil (by rfl)) (by decide) (by decide) (by rfl) (by rfl)))))))),?_⟩
      rcases hv with ⟨l,vs',os',rfl,e,l100,al,rfl⟩ | ⟨nl,rfl⟩
      case' inr =>
        have ex := ex (fun os' h => by cases h)
        match v, nl with
        | .int _,_=>exact ⟨false,rfl,⟨fun _=>⟨fun _=>ex _ (Same.refl _) _ er.y_NoTable,fun h=>nb h⟩,fun h=>nb h⟩⟩
        | .bl _,_=>exact ⟨false,rfl,⟨fun _=>⟨fun _=>ex _ (Same.refl _) _ er.y_NoTable,fun h=>nb h⟩,fun h=>nb h⟩⟩
        | .non,_=>exact ⟨false,rfl,⟨fun _=>⟨fun _=>ex _ (Same.refl _) _ er.y_NoTable,fun h=>nb h⟩,fun h=>nb h⟩⟩
        | .str _,_=>exact ⟨false,rfl,⟨fun _=>⟨fun _=>ex _ (Same.refl _) _ er.y_NoTable,fun h=>nb h⟩,fun h=>nb h⟩⟩
        | .ref _,⟨u,t,h1,h2,h3⟩=>exact ⟨u,false,t,h1,h2,h3,⟨fun _=>⟨fun _=>ex _ (Same.refl _) _ er.y_NoTable,fun h=>nb h⟩,fun h=>nb h⟩⟩
        | .flt _, h => exact h.elim
        | .byt _, h => exact h.elim
        | .ty _, h => exact h.elim
      have ex:BadT os'→∀ H',Same H H'→ExN K "NoTable" E H':=fun h=>ex fun _ z=>by cases z; exact h
      have ll := al.len
      refine ⟨_,true,_,e,rfl,rfl,⟨fun h=>nb h,fun _=>⟨_,.inl (SqL.of e),?_⟩⟩⟩
      have goB:¬ (1 ≤ vs'.length∧vs'.length ≤ 10)→∀ H',Same H H'→ExN K "NoTable" E H':=fun c=>ex fun ⟨rows,er,g⟩=>c (by
        have h1 := g.1
        have h2:os'.length = rows.length:=by rw [er,List.length_map]
        omega)
      refine ⟨fun h1=>⟨fun h2=>?_,fun h2=>?_⟩,fun h1=>⟨fun _=>?_,fun h=>nb h⟩⟩
      · have h2:¬ (vs'.length:Int) ≤ 10:=by simpa using h2
        exact goB (fun c=>by omega) _ (Same.refl _) _ er.y_NoTable
      rotate_left
      · have h1:¬ (1:Int) ≤ (vs'.length:Int):=of_decide_eq_false h1
        exact goB (fun c=>by omega) _ (Same.refl _) _ er.y_NoTable
      have h1:(1:Int) ≤ (vs'.length:Int):=of_decide_eq_true h1
      have h2 : (vs'.length : Int) ≤ 10 := by simpa using h2
      clear goB
      refine ⟨l,rfl,⟨_,SqL.of e⟩,comp_abs (fun _ v o=>RwAt H v o) (fun _ _ _ _ _ h=>h) (fun _ o y=>y = V.bl (rowOk o)) (fun _ _ _ _ _ h=>h) (by omega) (SqL.of e) al ?_ ?_⟩
      · intro v o H1 hM _ s1 P hP
        exact ⟨rfl, o, hM.up s1, fun H2 s2 => hP _ _ s2 rfl⟩
      intro D1 H1 ys s1 _ e1 a1
      have y1 := a2_bl a1
      refine ⟨os'.map rowOk,by rw [← y1]; exact SqL.of e1,⟨fun h=>?_,fun h=>?_⟩⟩
      · have h:(os'.map rowOk).all id = false:=by simpa using h
        refine ex (fun ⟨rows,er,g⟩=>?_) _ s1 _ er.y_NoTable
        rw [er, all_ok g.2.1] at h
        exact nb h
      have h:(os'.map rowOk).all id = true:=by simpa using h
      obtain ⟨rows, rfl, hr⟩ := all_some h
      have ro := a2_ro al
      have ro1:All2 (RoAt H1) vs' rows:=ro.imp fun v r h=>ro_up v r _ _ (kt_of s1) h
      have lr : vs'.length = rows.length := ro.len
      obtain ⟨v0,hv0⟩:∃ v0,vs'[0]? = some v0:=⟨_,List.getElem?_eq_getElem (by omega)⟩
      obtain ⟨r0, hr0, ro0⟩ := ro1.get hv0
      refine ⟨_,_,SqL.of (s1 _ _ e),atI_nat hv0,_,_,rp_ro ro0,.tup (w_FIRST_ROW.sq H1) (.cons (.int _) (.cons (.tup (w_FIRST_ROW_1.sq H1) (.cons (.int _) (.cons (.int _) .nil))) .nil)),rfl,rfl,?_⟩
      have ed:PyData.eqv (rd3 r0) (.tuple [.int 0,.tuple [.int 1,.int 2]]) = decide (r0 = (0,1,2)):=eqv_rd3 r0 (0,1,2)
      rw [ed]
      have bad:¬ GoodT rows→∀ H',Same H H'→ExN K "NoTable" E H':=fun c=>ex fun ⟨rows',er,g⟩=>c (map_some_inj er ▸ g)
      refine ⟨fun h => ?_, fun h => ?_⟩
      · have h : ¬ r0 = (0, 1, 2) := by simpa using h
        refine bad (fun g => h ?_) _ s1 _ er.y_NoTable
        have := g.2.2.1
        rw [hr0] at this
        exact Option.some.inj this
      have h : r0 = (0, 1, 2) := by simpa using h
      subst h
      refine ⟨_,rfl,_,SqL.of (s1 _ _ e),fun C H2 s2 e2=>?_⟩
      have e2:H2 C = some (.lst (vs'.drop 1)):=e2.trans (congrArg (fun l=>some (HO.lst l)) (cut_drop (j:=1) (by omega)))
      have s12 := s1.trans s2
      have ro2:All2 (RoAt H2) vs' rows:=ro.imp fun v r h=>ro_up v r _ _ (kt_of s12) h
      have lz:(rows.zip (rows.drop 1)).length = rows.length - 1:=by rw [List.length_zip,List.length_drop]; omega
      refine ⟨⟨_,SqL.of (s12 _ _ e)⟩,⟨_,SqL.of e2⟩,comp_zipR (ms:=rows.zip (rows.drop 1)) (fun H x y m=>RoAt H x m.1∧RoAt H y m.2) (fun x y m H H' kt h=>⟨ro_up _ _ _ _ kt h.1,ro_up _ _ _ _ kt h.2⟩) (fun _ m y=>y = V.bl (goR m.1 m.2)) (fun _ _ _ _ _ h=>h) (by omega) (SqL.of (s12 _ _ e)) (SqL.of e2) (by omega) (by rw [List.length_drop]; omega) ?_ ?_ ?_⟩
      · intro i x y m hx hy hm
        obtain ⟨m1, m2⟩ := List.getElem?_zip_eq_some.mp hm
        obtain ⟨a, ha, g1⟩ := ro2.get hx
        rw [List.getElem?_drop] at hy m2
        obtain ⟨b, hb, g2⟩ := ro2.get hy
        rw [ha] at m1
        rw [hb] at m2
        cases m1
        cases m2
        exact ⟨g1, g2⟩
      · intro x y m t H3 hM hm s3 et P hP
        have q1 := row_bd (hr m.1 (List.of_mem_zip hm).1)
        have q2:=row_bd (hr m.2 (List.mem_of_mem_drop (List.of_mem_zip hm).2))
        have bd:∀ {i:Int},0 ≤ i→i ≤ 9999→Bd 20 i:=fun a b=>bd_of (b:=9999) (by omega) (by omega) (bd_lit rfl)
        exact ⟨t,_,rfl,SqT.of et,rfl,_,_,rfl,_,_,rfl,rfl,rfl,m.1,m.2,hM,⟨bd (by omega) (by omega),bd (by omega) (by omega),bd (by omega) (by omega),bd (by omega) (by omega)⟩,hP _ _ (Same.refl _) rfl⟩
      intro D3 H3 zs s3 _ e3 a3
      have y3 := a2_bl a3
      have s13 := s12.trans s3
      refine ⟨(rows.zip (rows.drop 1)).map fun m=>goR m.1 m.2,by rw [← y3]; exact SqL.of e3,?_⟩
      rw [← chn_zip]
      refine ⟨fun h => ?_, fun h => ?_⟩
      · have h : chn rows = false := by simpa using h
        refine bad (fun g => ?_) _ s13 _ er.y_NoTable
        rw [g.2.2.2] at h
        exact nb h
      have h : chn rows = true := by simpa using h
      refine ⟨_, .inl (SqL.of (s13 _ _ e)), fun D hD => ?_⟩
      exact k rows vs' l rfl e rfl ⟨⟨by omega,by omega⟩,hr,hr0,h⟩ D _ (s13.trans (same_upd hD)) (none_back s13 hD) upd_same
abbrev Rw := Int × Q2
structure RwOk (r : Rw) : Prop where
  f0 : 0 ≤ r.1
  f1 : r.1 ≤ 2000000
  t0 : 0 ≤ r.2.1
  tb : r.2.1 ≤ r.2.2
  b0 : 0 < r.2.2
  b1 : r.2.2 ≤ 9999
  g : Int.gcd r.2.1 r.2.2 = 1
structure Tb (rows : List Rw) : Prop where
  hd : ∃ r rs, rows = r :: rs ∧ r.1 = 0
  ok : ∀ r ∈ rows, RwOk r
  len : rows.length ≤ 10
def TbA (K:PySem.W.Frag) (H:Hp) (L:Addr) (rows:List Rw):Prop:=∃ vs,SqL K H L vs∧All2 (RoAt H) vs rows
theorem TbA.up {K:PySem.W.Frag} {H H':Hp} {L:Addr} {rows:List Rw} (s:Same H H') (h:TbA K H L rows):TbA K H' L rows:=by
  obtain ⟨vs, h1, h2⟩ := h
  exact ⟨vs,s.seq h1,h2.imp fun v g r=>ro_up v g _ _ (kt_of s) r⟩
def TbL (H:Hp) (L:Addr) (rows:List Rw):Prop:=∃ vs,H L = some (.lst vs)∧All2 (RoAt H) vs rows
def pick (t b:Int) (rows:List Rw) (x:Q2):Q2:=rows.foldl (fun x r=>if r.1 * b ≤ t then r.2 else x) x
theorem pick_cons {t b:Int} {r:Rw} {rows:List Rw} {x:Q2}:pick t b (r :: rows) x = pick t b rows (if r.1 * b ≤ t then r.2 else x):=rfl
theorem pick_last (t b:Int):∀ (rows:List Rw) (x:Q2),pick t b rows x = (((rows.filter fun r=>decide (r.1 * b ≤ t)).getLast?).map (·.2)).getD x
  | [], x => rfl
  | r :: rs, x => by
    rw [pick_cons, pick_last t b rs]
    by_cases h : r.1 * b ≤ t
    · rw [if_pos h,List.filter_cons_of_pos (by simpa using h),List.getLast?_cons]
      cases (rs.filter fun r=>decide (r.1 * b ≤ t)).getLast? <;> rfl
    · rw [if_neg h,List.filter_cons_of_neg (by simpa using h)]
theorem pick_mem (t b:Int):∀ (rows:List Rw) (x:Q2),pick t b rows x = x ∨ ∃ r ∈ rows,pick t b rows x = r.2
  | [], x => .inl rfl
  | r :: rs, x => by
    rw [pick_cons]
    rcases pick_mem t b rs (if r.1 * b ≤ t then r.2 else x) with e | ⟨r',h,e⟩
    · rw [e]
      by_cases h : r.1 * b ≤ t
      · rw [if_pos h]
        exact .inr ⟨r, List.mem_cons_self .., rfl⟩
      · rw [if_neg h]
        exact .inl rfl
    · exact .inr ⟨r', List.mem_cons_of_mem _ h, e⟩
theorem pick_ok {t b:Int} {rows:List Rw} (h:Tb rows) (ht:0 ≤ t) (x:Q2):∃ r ∈ rows,pick t b rows x = r.2:=by
  obtain ⟨r, rs, e0, e⟩ := h.hd
  rw [e0]
  have c : r.1 * b ≤ t := by rw [e, Int.zero_mul]; exact ht
  rw [pick_cons, if_pos c]
  rcases pick_mem t b rs r.2 with e' | ⟨r', h', e'⟩
  · exact ⟨r, List.mem_cons_self .., e'⟩
  · exact ⟨r', List.mem_cons_of_mem _ h', e'⟩
def due (rows:List Rw) (t b:Int):Q2:=if t < 0 then ((pick (-t) b rows (0,1)).2 - (pick (-t) b rows (0,1)).1,(pick (-t) b rows (0,1)).2) else pick t b rows (0,1)
theorem due_nn {rows:List Rw} {t b:Int} (h:0 ≤ t):due rows t b = pick t b rows (0,1):=if_neg (by omega)
theorem due_neg {rows:List Rw} {t b:Int} (h:t < 0):due rows t b = ((due rows (-t) b).2 - (due rows (-t) b).1,(due rows (-t) b).2):=by
  rw [due_nn (show 0 ≤ -t by omega)]
  exact if_pos h
theorem gcd_left (a b:Int):Int.gcd (b - a) b = Int.gcd a b:=by
  have half:∀ a b:Int,(Int.gcd a b:Int) ∣ (Int.gcd (b - a) b:Int):=fun a b=>by
    have h1 : (Int.gcd a b : Int) ∣ a := Int.gcd_dvd_left ..
    have h2:(Int.gcd a b:Int) ∣ b:=Int.gcd_dvd_right ..
    exact Int.dvd_coe_gcd (Int.dvd_sub h2 h1) h2
  have h := half (b - a) b
  rw [show b - (b - a) = a by omega] at h
  exact Nat.dvd_antisymm (Int.ofNat_dvd.mp h) (Int.ofNat_dvd.mp (half a b))
theorem fr_one {a b:Int} (hb:0 < b) (g:Int.gcd a b = 1):frT (1 * b - a * 1) (1 * b) = b - a∧frB (1 * b - a * 1) (1 * b) = b:=by
  rw [Int.one_mul, Int.mul_one]
  have g' : Int.gcd (b - a) b = 1 := by rw [gcd_left, g]
  have t := lowT_mul (b - a) b
  have u := lowB_mul (b - a) b
  rw [g'] at t u
  unfold frT frB
  rw [if_neg (by omega), if_neg (by omega)]
  exact ⟨by simpa using t, by simpa using u⟩
theorem a2_last {α β:Type} {R:α→β→Prop}:∀ {l:List α} {m:List β},All2 R l m→∀ {a:α},l.getLast? = some a→∃ b,m.getLast? = some b∧R a b
  | _, _, .nil, a, h => by simp at h
  | _, _, .cons x .nil, a, h => by
    simp at h
    subst h
    exact ⟨_, rfl, x⟩
  | _, _, .cons x (.cons y r), a, h => by
    rw [List.getLast?_cons_cons] at h ⊢
    exact a2_last (.cons y r) h
def sp_minus (K:PySem.W.Frag) (ns:List Int):Sp:=fun vs H Q _=>match vs with
  | [.ref p,.ref q]=>∃ x y:Q2,(Fq 1000 H p x.1 x.2∧Fq 1000 H q y.1 y.2)∧∀ r H',Same H H'→FrAt H' r (x.1 * y.2 - y.1 * x.2) (x.2 * y.2)→Q (.ref r) H'
  | _ => False
theorem sc_minus:FnScope ["one","other"] ["one","other"] (defScope s_minus):=⟨rfl,rfl,rfl,by decide +kernel,rfl,by decide +kernel,by decide +kernel⟩
theorem ok_minus (d:Dfn K mg "minus" s_minus ["one","other"]) (er:Errs K mg c_Capped c_Early c_NoTable c_Rested c_Rule)   (c_fraction:Cal P w K mg base "fraction" ["top","bottom"] 2 (sp_fraction K ns)):Cal P w K mg base "minus" ["one","other"] 3 (sp_minus K ns):=by
  refine d.cal (k:=2) sc_minus (fun vs H Q E h=>?_) (fun f cdv A outer s H vs Q E hr h=>?_)
  · match vs, h with
    | [.ref p, .ref q], _ => rfl
  · match vs, h with
    | [.ref p, .ref q], hq0 =>
      obtain ⟨x, y, ⟨h1, h2⟩, k⟩ := hq0
      refine ⟨_,(@pss_one _ _ _ (@ps_ret _ _ _ _ (@e_call _ _ _ _ _ _ _ _ _ _ _ c_fraction hr (by decide) (by rfl) (@pa_cons _ _ _ _ _ (@pe_op _ _ _ _ _ _ _ _ o_sub (@pe_op _ _ _ _ _ _ _ _ o_mul (@pe_ix _ _ _ _ _ _ _ i_tup (dv 0) pe_int (fun _ _=>rfl)) (@pe_ix _ _ _ _ _ _ _ i_tup (dv 1) pe_int (fun _ _=>rfl))) (@pe_op _ _ _ _ _ _ _ _ o_mul (@pe_ix _ _ _ _ _ _ _ i_tup (dv 1) pe_int (fun _ _=>rfl)) (@pe_ix _ _ _ _ _ _ _ i_tup (dv 0) pe_int (fun _ _=>rfl)))) (@pa_cons _ _ _ _ _ (@pe_op _ _ _ _ _ _ _ _ o_mul (@pe_ix _ _ _ _ _ _ _ i_tup (dv 0) pe_int (fun _ _=>rfl)) (@pe_ix _ _ _ _ _ _ _ i_tup (dv 1) pe_int (fun _ _=>rfl))) pa_nil (by rfl)) (by rfl)) (by decide) (by rfl) (by rfl)))),?_⟩
      exact ⟨_,h1.at',_,h2.at',cok h1.ba h2.bb (by decide) (by decide),_,h2.at',_,h1.at',cok h2.ba h1.bb (by decide) (by decide),_,h1.at',_,h2.at',cok h1.bb h2.bb (by decide) (by decide),
        ⟨Int.ne_of_gt (Int.mul_pos h1.pos h2.pos),(h1.bb.mul h2.bb).mono (by decide)⟩,k⟩
def sp_plus (K:PySem.W.Frag) (ns:List Int):Sp:=fun vs H Q _=>match vs with
  | [.ref p,.ref q]=>∃ x y:Q2,(Fq 1000 H p x.1 x.2∧Fq 1000 H q y.1 y.2)∧∀ r H',Same H H'→FrAt H' r (x.1 * y.2 + y.1 * x.2) (x.2 * y.2)→Q (.ref r) H'
  | _ => False
theorem sc_plus:FnScope ["one","other"] ["one","other"] (defScope s_plus):=⟨rfl,rfl,rfl,by decide +kernel,rfl,by decide +kernel,by decide +kernel⟩
theorem ok_plus (d:Dfn K mg "plus" s_plus ["one","other"]) (er:Errs K mg c_Capped c_Early c_NoTable c_Rested c_Rule)   (c_fraction:Cal P w K mg base "fraction" ["top","bottom"] 2 (sp_fraction K ns)):Cal P w K mg base "plus" ["one","other"] 3 (sp_plus K ns):=by
  refine d.cal (k:=2) sc_plus (fun vs H Q E h=>?_) (fun f cdv A outer s H vs Q E hr h=>?_)
  · match vs, h with
    | [.ref p, .ref q], _ => rfl
  · match vs, h with
    | [.ref p, .ref q], hq0 =>
      obtain ⟨x, y, ⟨h1, h2⟩, k⟩ := hq0
      refine ⟨_,(@pss_one _ _ _ (@ps_ret _ _ _ _ (@e_call _ _ _ _ _ _ _ _ _ _ _ c_fraction hr (by decide) (by rfl) (@pa_cons _ _ _ _ _ (@pe_op _ _ _ _ _ _ _ _ o_add (@pe_op _ _ _ _ _ _ _ _ o_mul (@pe_ix _ _ _ _ _ _ _ i_tup (dv 0) pe_int (fun _ _=>rfl)) (@pe_ix _ _ _ _ _ _ _ i_tup (dv 1) pe_int (fun _ _=>rfl))) (@pe_op _ _ _ _ _ _ _ _ o_mul (@pe_ix _ _ _ _ _ _ _ i_tup (dv 1) pe_int (fun _ _=>rfl)) (@pe_ix _ _ _ _ _ _ _ i_tup (dv 0) pe_int (fun _ _=>rfl)))) (@pa_cons _ _ _ _ _ (@pe_op _ _ _ _ _ _ _ _ o_mul (@pe_ix _ _ _ _ _ _ _ i_tup (dv 0) pe_int (fun _ _=>rfl)) (@pe_ix _ _ _ _ _ _ _ i_tup (dv 1) pe_int (fun _ _=>rfl))) pa_nil (by rfl)) (by rfl)) (by decide) (by rfl) (by rfl)))),?_⟩
      exact ⟨_,h1.at',_,h2.at',cok h1.ba h2.bb (by decide) (by decide),_,h2.at',_,h1.at',cok h2.ba h1.bb (by decide) (by decide),_,h1.at',_,h2.at',cok h1.bb h2.bb (by decide) (by decide),
        ⟨Int.ne_of_gt (Int.mul_pos h1.pos h2.pos),(h1.bb.mul h2.bb).mono (by decide)⟩,k⟩
def spR_share_by : Nat → PySem.W.Frag → List Int → Sp
  | 0, _, _ => fun _ _ _ _ => False
  | d + 1, K, ns => fun vs H Q _ => match vs with
    | [.ref L,.ref p]=>∃ (rows:List Rw) (x:Q2),(TbA K H L rows∧Tb rows∧Fq 1300 H p x.1 x.2∧(x.1 < 0→0 < d))∧∀ r H',Same H H'→H' r = some (.tup [.int (due rows x.1 x.2).1,.int (due rows x.1 x.2).2])→Q (.ref r) H'
    | _ => False
def sp_share_by (K:PySem.W.Frag) (ns:List Int):Sp:=spR_share_by 2 K ns
theorem sc_share_by:FnScope ["table","difference","begun"] ["table","difference"] (defScope s_share_by):=⟨rfl,rfl,rfl,by decide +kernel,rfl,by decide +kernel,by decide +kernel⟩
theorem okS_share_by (d:Dfn K mg "share_by" s_share_by ["table","difference"]) (er:Errs K mg c_Capped c_Early c_NoTable c_Rested c_Rule)   (c_under:Cal P w K mg base "under" ["one","other"] 1 (sp_under K ns)) (c_minus:Cal P w K mg base "minus" ["one","other"] 3 (sp_minus K ns))  (dd:Nat) (c_share_by:Cal P w K mg base "share_by" ["table","difference"] (4 + dd) (spR_share_by dd K ns)):Cal P w K mg base "share_by" ["table","difference"] (4 + (dd + 1)) (spR_share_by (dd + 1) K ns):=by
  refine d.cal (k:=4 + dd) sc_share_by (fun vs H Q E h=>?_) (fun f cdv A outer s H vs Q E hr h=>?_)
  · match vs, h with
    | [.ref L, .ref p], _ => rfl
  · match vs, h with
    | [.ref L, .ref p], hq0 =>
      obtain ⟨rows, x, ⟨hT, tb, f, hd⟩, k⟩ := hq0
      refine ⟨_,(@pss_cons _ _ _ _ _ (@s_if _ _ _ _ _ _ _ _ (@t_cmp _ _ _ _ _ _ _ _ o_lt (@pe_ix _ _ _ _ _ _ _ i_tup (dv 1) pe_int (fun _ _=>rfl)) pe_int (@nomark _ _ (by decide) (by decide))) (@pss_one _ _ _ (@ps_ret _ _ _ _ (@e_call _ _ _ _ _ _ _ _ _ _ _ c_minus hr (by omega) (by rfl) (@pa_cons _ _ _ _ _ (@e_tup _ _ _ _ _ (@pa_cons _ _ _ _ _ pe_int (@pa_cons _ _ _ _ _ pe_int pa_nil (by rfl)) (by rfl))) (@pa_cons _ _ _ _ _ (@e_call _ _ _ _ _ _ _ _ _ _ _ c_share_by hr (by omega) (by rfl) (@pa_cons _ _ _ _ _ (dv 0) (@pa_cons _ _ _ _ _ (@e_tup _ _ _ _ _ (@pa_cons _ _ _ _ _ (@pe_un _ _ _ _ _ _ u_neg (@pe_ix _ _ _ _ _ _ _ i_tup (dv 1) pe_int (fun _ _=>rfl))) (@pa_cons _ _ _ _ _ (@pe_ix _ _ _ _ _ _ _ i_tup (dv 1) pe_int (fun _ _=>rfl)) pa_nil (by rfl)) (by rfl))) pa_nil (by rfl)) (by rfl)) (by decide) (by rfl) (by rfl)) pa_nil (by rfl)) (by rfl)) (by decide) (by rfl) (by rfl)))) pss_nil) (@pss_cons _ _ _ _ _ (@ps_compIN _ _ _ _ _ _ _ _ _ (2) _ _ _ _ _ _ ["row"] ["difference"] [1] rfl (@pi_list _ _ _ _ (dv 0)) (fun C s H fp=>(@pg_name _ _ (0) _ (show List.Nodup [("row":Str),("difference":Str)] by decide +kernel) rfl (by first | exact Or.inl rfl | exact Or.inr rfl) (by first | exact .inl rfl | exact .inr rfl | assumption))) (fun C s H fp=>(@pt_not _ _ _ _ (@t_val _ _ _ (@e_call _ _ _ _ _ _ _ _ _ _ _ c_under hr (by omega) (by rfl) (@pa_cons _ _ _ _ _ (dv 1) (@pa_cons _ _ _ _ _ (@e_tup _ _ _ _ _ (@pa_cons _ _ _ _ _ (@pe_ix _ _ _ _ _ _ _ i_tup (dv 0) pe_int (fun _ _=>rfl)) (@pa_cons _ _ _ _ _ pe_int pa_nil (by rfl)) (by rfl))) pa_nil (by rfl)) (by rfl)) (by decide) (by rfl) (by rfl)) (by intro _; rfl)))) (fun C s H fp=>(dv 0)) rfl rfl (by decide +kernel) (by decide +kernel) (by rfl) ⟨rfl,True.intro⟩ ⟨⟨rfl,rfl,rfl,rfl⟩,True.intro⟩ sc_share_by.nd rfl rfl (by intro _; rfl) (by rfl)) (@pss_one _ _ _ (@ps_ret _ _ _ _ (@pe_ix _ _ _ _ _ _ _ i_tup (@pe_ix _ _ _ _ _ _ _ i_lst (dv 2) (@pe_un _ _ _ _ _ _ u_neg pe_int) (fun _ _=>rfl)) pe_int (fun _ _=>rfl)))))),?_⟩
      refine ⟨_, f.at', ⟨fun h => ?_, fun h => ?_⟩⟩
      · have hneg : x.1 < 0 := of_decide_eq_true h
        clear h
        cases dd with
        | zero => exact absurd (hd hneg) (by decide)
        | succ d' =>
          refine fun T1 H1 s1 e1 => ?_
          have f1 := f.up s1
          refine ⟨_,f1.at',_,f1.at',fun T2 H2 s2 e2=>?_⟩
          have f2:Fq 1300 H2 T2 (-x.1) x.2:=⟨e2,f.pos,f.ba.neg,f.bb⟩
          refine ⟨rows,(-x.1,x.2),⟨hT.up (s1.trans s2),tb,f2,fun z=>absurd z (by show ¬ (-x.1 < 0); omega)⟩,fun r H3 s3 e3=>?_⟩
          have ht : 0 ≤ -x.1 := by omega
          obtain ⟨m,hm,em⟩:=pick_ok (b:=x.2) tb ht (0,1)
          have o := tb.ok m hm
          have em:due rows (-x.1) x.2 = m.2:=(due_nn ht).trans em
          have e3:H3 r = some (.tup [.int m.2.1,.int m.2.2]):=by rw [← em]; exact e3
          have o1 := o.t0
          have o2 := o.tb
          have o3 := o.b0
          have o4 := o.b1
          have b1:Bd 1000 m.2.1:=bd_of (b:=9999) (by omega) (by omega) (bd_lit rfl)
          have b2:Bd 1000 m.2.2:=bd_of (b:=9999) (by omega) (by omega) (bd_lit rfl)
          refine ⟨(1,1),m.2,⟨⟨(s2.trans s3) _ _ e1,by decide,bd_lit rfl,bd_lit rfl⟩,⟨e3,o3,b1,b2⟩⟩,fun r' H4 s4 e4=>?_⟩
          refine k r' H4 (s1.trans (s2.trans (s3.trans s4))) ?_
          obtain ⟨u1, u2⟩ := fr_one o3 o.g
          have e5 := e4.at'
          rw [due_neg hneg, em]
          refine e5.trans ?_
          show some (HO.tup [V.int (frT (1 * m.2.2 - m.2.1 * 1) (1 * m.2.2)),V.int (frB (1 * m.2.2 - m.2.1 * 1) (1 * m.2.2))]) = _
          rw [u1, u2]
      · have h := of_decide_eq_false h
        have hnn : 0 ≤ x.1 := by omega
        clear h
        obtain ⟨vs, hx, hm⟩ := hT
        have hc:(fun r:Rw=>!ltQ x (r.1,1)) = fun r:Rw=>decide (r.1 * x.2 ≤ x.1):=by
          funext r
          show (!decide (x.1 * 1 < r.1 * x.2)) = decide (r.1 * x.2 ≤ x.1)
          rw [Int.mul_one]
          by_cases c : r.1 * x.2 ≤ x.1
          · rw [decide_eq_true c,decide_eq_false (by omega)]
            rfl
          · rw [decide_eq_false c,decide_eq_true (by omega)]
            rfl
        have fx : Fq 1900 H p x.1 x.2 := f.mono (by decide)
        refine ⟨L,rfl,⟨_,hx⟩,comp_absI RoAt ro_up (fun H r y=>RoAt H y r) (fun r y H H' kt h=>ro_up y r H H' kt h) (fun r=>!ltQ x (r.1,1)) (by rw [hm.len]; have:=tb.len; omega) hx hm ?_ ?_⟩
        · intro v m H2 hM hm2 s2 P P' hP hP'
          obtain ⟨p', q', rfl, e1, e2⟩ := hM
          have o := tb.ok m hm2
          have o1 := o.f0
          have o2 := o.f1
          have bm:Bd 1900 m.1:=bd_of (b:=2000000) (by omega) (by omega) (bd_lit rfl)
          refine ⟨rfl,_,e1,fun T H3 s3 e3=>⟨x.1,x.2,m.1,1,⟨((fx.up s2).up s3).at',e3⟩,⟨fx.ba,fx.bb,bm,bd_lit rfl⟩,⟨fun h=>hP h _ _ s3 ⟨p',q',rfl,s3 _ _ e1,s3 _ _ e2⟩,fun h=>hP' h _ s3⟩⟩⟩
        intro D H1 ys s1 d1 e1 a1
        rw [hc] at a1
        obtain ⟨r0, rs, er0, z0⟩ := tb.hd
        have c0:r0 ∈ rows.filter fun r=>decide (r.1 * x.2 ≤ x.1):=by
          refine List.mem_filter.mpr ⟨by rw [er0]; exact List.mem_cons_self ..,?_⟩
          rw [z0, Int.zero_mul]
          exact decide_eq_true hnn
        obtain ⟨m,hm⟩:∃ m,(rows.filter fun r=>decide (r.1 * x.2 ≤ x.1)).getLast? = some m:=by
          cases e:(rows.filter fun r=>decide (r.1 * x.2 ≤ x.1)).getLast? with
          | none =>
            rw [List.getLast?_eq_none_iff] at e
            rw [e] at c0
            simp at c0
          | some m => exact ⟨m, rfl⟩
        obtain ⟨v, hv, p', q', rfl, g1, g2⟩ := a2_last a1 hm
        have em : due rows x.1 x.2 = m.2 := by
          rw [due_nn hnn, pick_last, hm]
          rfl
        refine ⟨_,.ref p',SqL.of e1,atI_last hv,_,g1,k q' H1 s1 ?_⟩
        rw [em]
        exact g2
theorem okR_share_by (d:Dfn K mg "share_by" s_share_by ["table","difference"]) (er:Errs K mg c_Capped c_Early c_NoTable c_Rested c_Rule)   (c_under:Cal P w K mg base "under" ["one","other"] 1 (sp_under K ns)) (c_minus:Cal P w K mg base "minus" ["one","other"] 3 (sp_minus K ns)): ∀ dd:Nat,Cal P w K mg base "share_by" ["table","difference"] (4 + dd) (spR_share_by dd K ns)
  | 0=>d.cal (k:=3) sc_share_by (fun vs H Q E h=>False.elim h) (fun f cdv A outer s H vs Q E hr h=>False.elim h)
  | dd + 1=>okS_share_by d er c_under c_minus dd (okR_share_by d er c_under c_minus dd)
theorem ok_share_by (d:Dfn K mg "share_by" s_share_by ["table","difference"]) (er:Errs K mg c_Capped c_Early c_NoTable c_Rested c_Rule)   (c_under:Cal P w K mg base "under" ["one","other"] 1 (sp_under K ns)) (c_minus:Cal P w K mg base "minus" ["one","other"] 3 (sp_minus K ns)):Cal P w K mg base "share_by" ["table","difference"] 6 (sp_share_by K ns):=okR_share_by d er c_under c_minus 2
def sp_l_common (K:PySem.W.Frag) (ns:List Int):Sp:=fun vs H Q _=>match vs with
  | [.int x,.int y]=>0 ≤ y∧Q (.int (Int.gcd x y:Int)) H
  | _ => False
theorem sc_l_common:FnScope ["_law_one","_law_other","_law_rest"] ["_law_one","_law_other"] (defScope s_l_common):=⟨rfl,rfl,rfl,by decide +kernel,rfl,by decide +kernel,by decide +kernel⟩
theorem ok_l_common (d:Dfn K mg "_law_common" s_l_common ["_law_one","_law_other"]) (er:Errs K mg c_Capped c_Early c_NoTable c_Rested c_Rule) (n_abs:mg "abs" = none)  :Cal P w K mg base "_law_common" ["_law_one","_law_other"] 1 (sp_l_common K ns):=by
  refine d.cal (k:=0) sc_l_common (fun vs H Q E h=>?_) (fun f cdv A outer s H vs Q E hr h=>?_)
  · match vs, h with
    | [.int x, .int y], _ => rfl
  · match vs, h with
    | [.int x, .int y], hq0 =>
      obtain ⟨y0, q⟩ := hq0
      refine ⟨_,(@pss_cons _ _ _ _ _ (@ps_set _ _ (0) _ _ _ _ sc_l_common.nd rfl (by first | exact Or.inl rfl | exact Or.inr rfl) (@pe_callB _ _ _ _ _ _ _ _ _ c_abs (by rfl) n_abs (by decide +kernel) (@pa_cons _ _ _ _ _ (dv 0) pa_nil (by rfl)) (by decide) (by decide) (by rfl) (by rfl)) (by rfl) (by first | exact .inl rfl | exact .inr rfl | assumption)) (@pss_cons _ _ _ _ _ (@s_while _ _ _ _ _ _ PassesOwn.never (@t_cmp _ _ _ _ _ _ _ _ o_ne (dv 1) pe_int (@nomark _ _ (by decide) (by decide))) (@pss_cons _ _ _ _ _ (@ps_set _ _ (2) _ _ _ _ sc_l_common.nd rfl (by first | exact Or.inl rfl | exact Or.inr rfl) (@pe_op _ _ _ _ _ _ _ _ o_mod (dv 0) (dv 1)) (by rfl) (by first | exact .inl rfl | exact .inr rfl | assumption)) (@pss_cons _ _ _ _ _ (@ps_set _ _ (0) _ _ _ _ sc_l_common.nd rfl (by first | exact Or.inl rfl | exact Or.inr rfl) (dv 1) (by rfl) (by first | exact .inl rfl | exact .inr rfl | assumption)) (@pss_one _ _ _ (@ps_set _ _ (1) _ _ _ _ sc_l_common.nd rfl (by first | exact Or.inl rfl | exact Or.inr rfl) (dv 2) (by rfl) (by first | exact .inl rfl | exact .inr rfl | assumption)))))) (@pss_one _ _ _ (@ps_ret _ _ _ _ (dv 0))))),?_⟩
      refine ⟨fun m σ H'=>∃ a b o,σ = [some (.int a),some (.int b),o]∧H' = H∧0 ≤ a∧0 ≤ b∧Int.gcd a b = Int.gcd x y∧m = b.toNat,⟨_,_,y,none,rfl,rfl,by omega,y0,gcd_abs x y,rfl⟩,?_⟩
      rintro m σ H' ⟨a, b, o, rfl, rfl, a0, b0, g, rfl⟩
      refine ⟨fun h => ?_, fun h => ?_⟩
      · have hb : ¬ b = 0 := by simpa using h
        refine ⟨by omega, ?_⟩
        have e0 := Int.emod_nonneg a (show b ≠ 0 from hb)
        have e1:=Int.emod_lt_of_pos a (show 0 < b by omega)
        refine ⟨(a % b).toNat,by omega,b,a % b,_,rfl,rfl,b0,e0,?_,rfl⟩
        rw [gcd_step a0 b0, g]
      · have hb : b = 0 := by simpa using h
        subst hb
        have e : (Int.gcd x y : Int) = a := by
          rw [← g, Int.gcd_zero_right]
          omega
        rw [e] at q
        exact q
def sp_l_low (K:PySem.W.Frag) (ns:List Int):Sp:=fun vs H Q _=>match vs with
  | [.int t,.int b]=>(0 < b∧Bd 4000 b)∧∀ p H',Same H H'→H' p = some (.tup [.int (lowT t b),.int (lowB t b)])→Q (.ref p) H'
  | _ => False
theorem sc_l_low:FnScope ["_law_top","_law_bottom","_law_by"] ["_law_top","_law_bottom"] (defScope s_l_low):=⟨rfl,rfl,rfl,by decide +kernel,rfl,by decide +kernel,by decide +kernel⟩
theorem ok_l_low (d:Dfn K mg "_law_low" s_l_low ["_law_top","_law_bottom"]) (er:Errs K mg c_Capped c_Early c_NoTable c_Rested c_Rule)   (c_l_common:Cal P w K mg base "_law_common" ["_law_one","_law_other"] 1 (sp_l_common K ns)):Cal P w K mg base "_law_low" ["_law_top","_law_bottom"] 2 (sp_l_low K ns):=by
  refine d.cal (k:=1) sc_l_low (fun vs H Q E h=>?_) (fun f cdv A outer s H vs Q E hr h=>?_)
  · match vs, h with
    | [.int t, .int b], _ => rfl
  · match vs, h with
    | [.int t, .int b], hq0 =>
      obtain ⟨⟨b0, b1⟩, q⟩ := hq0
      refine ⟨_,(@pss_cons _ _ _ _ _ (@ps_set _ _ (2) _ _ _ _ sc_l_low.nd rfl (by first | exact Or.inl rfl | exact Or.inr rfl) (@e_call _ _ _ _ _ _ _ _ _ _ _ c_l_common hr (by decide) (by rfl) (@pa_cons _ _ _ _ _ (dv 0) (@pa_cons _ _ _ _ _ (dv 1) pa_nil (by rfl)) (by rfl)) (by decide) (by rfl) (by rfl)) (by rfl) (by first | exact .inl rfl | exact .inr rfl | assumption)) (@pss_one _ _ _ (@ps_ret _ _ _ _ (@e_tup _ _ _ _ _ (@pa_cons _ _ _ _ _ (@pe_op _ _ _ _ _ _ _ _ o_div (dv 0) (dv 2)) (@pa_cons _ _ _ _ _ (@pe_op _ _ _ _ _ _ _ _ o_div (dv 1) (dv 2)) pa_nil (by rfl)) (by rfl)))))),?_⟩
      refine ⟨by omega, ?_⟩
      have hg := gcd_pos' t b0
      have hB:Bd 4000 (Int.gcd t b:Int):=bd_gcd t b0 (b1.mono (by decide))
      exact ⟨⟨hg,hB⟩,⟨⟨hg,hB⟩,fun p H' s e=>q p H' s e⟩⟩
def nv47 (ns:List Int) (k:Int):Int:=if 0 < ns.length then ns.getD (k * 23 % (ns.length:Int)).toNat 0 * 48271 + k * k * 7001 + 13 else 70001 * k + 41
def cv47 (ns:List Int) (k:Int):Int:=if k < (ns.length:Int) then ns.getD k.toNat 0 else nv47 ns k * nv47 ns k % 2147483477
def sp_l_cell (K:PySem.W.Frag) (ns:List Int):Sp:=fun vs H Q _=>match vs with
  | [.ref a,.int k]=>SqL K H a (ns.map V.int)∧(0 ≤ k∧k < 1000∧Bits ns)∧∀ c,c = cv47 ns k→Q (.int c) H
  | _ => False
theorem sc_l_cell:FnScope ["_law_script","_law_k","_law_number_here"] ["_law_script","_law_k"] (defScope s_l_cell):=⟨rfl,rfl,rfl,by decide +kernel,rfl,by decide +kernel,by decide +kernel⟩
theorem ok_l_cell (d:Dfn K mg "_law_cell" s_l_cell ["_law_script","_law_k"]) (er:Errs K mg c_Capped c_Early c_NoTable c_Rested c_Rule) (n_len:mg "len" = none)  :Cal P w K mg base "_law_cell" ["_law_script","_law_k"] 1 (sp_l_cell K ns):=by
  refine d.cal (k:=0) sc_l_cell (fun vs H Q E h=>?_) (fun f cdv A outer s H vs Q E hr h=>?_)
  · match vs, h with
    | [.ref a, .int k], _ => rfl
  · match vs, h with
    | [.ref a, .int k], hq0 =>
      obtain ⟨hS, ⟨k0, k1, hb⟩, q⟩ := hq0
      refine ⟨_,(@pss_cons _ _ _ _ _ (@s_if _ _ _ _ _ _ _ _ (@t_cmp _ _ _ _ _ _ _ _ o_lt (dv 1) (@pe_callB _ _ _ _ _ _ _ _ _ c_len (by rfl) n_len (by decide +kernel) (@pa_cons _ _ _ _ _ (dv 0) pa_nil (by rfl)) (by decide) (by decide) (by rfl) (by rfl)) (@nomark _ _ (by decide) (by decide))) (@pss_one _ _ _ (@ps_ret _ _ _ _ (@pe_ix _ _ _ _ _ _ _ i_lst (dv 0) (dv 1) (fun _ _=>rfl)))) pss_nil) (@pss_cons _ _ _ _ _ (@ps_set _ _ (2) _ _ _ _ sc_l_cell.nd rfl (by first | exact Or.inl rfl | exact Or.inr rfl) (@pe_op _ _ _ _ _ _ _ _ o_add (@pe_op _ _ _ _ _ _ _ _ o_mul pe_int (dv 1)) pe_int) (by rfl) (by first | exact .inl rfl | exact .inr rfl | assumption)) (@ss_cutE _ _ _ _ _ (@s_if _ _ _ _ _ _ _ _ (@t_cmp _ _ _ _ _ _ _ _ o_gt (@pe_callB _ _ _ _ _ _ _ _ _ c_len (by rfl) n_len (by decide +kernel) (@pa_cons _ _ _ _ _ (dv 0) pa_nil (by rfl)) (by decide) (by decide) (by rfl) (by rfl)) pe_int (@nomark _ _ (by decide) (by decide))) (@pss_one _ _ _ (@ps_set _ _ (2) _ _ _ _ sc_l_cell.nd rfl (by first | exact Or.inl rfl | exact Or.inr rfl) (@pe_op _ _ _ _ _ _ _ _ o_add (@pe_op _ _ _ _ _ _ _ _ o_add (@pe_op _ _ _ _ _ _ _ _ o_mul (@pe_ix _ _ _ _ _ _ _ i_lst (dv 0) (@pe_op _ _ _ _ _ _ _ _ o_mod (@pe_op _ _ _ _ _ _ _ _ o_mul (dv 1) pe_int) (@pe_callB _ _ _ _ _ _ _ _ _ c_len (by rfl) n_len (by decide +kernel) (@pa_cons _ _ _ _ _ (dv 0) pa_nil (by rfl)) (by decide) (by decide) (by rfl) (by rfl))) (fun _ _=>rfl)) pe_int) (@pe_op _ _ _ _ _ _ _ _ o_mul (@pe_op _ _ _ _ _ _ _ _ o_mul (dv 1) (dv 1)) pe_int)) pe_int) (by rfl) (by first | exact .inl rfl | exact .inr rfl | assumption))) pss_nil) (@pss_one _ _ _ (@ps_ret _ _ _ _ (@pe_op _ _ _ _ _ _ _ _ o_mod (@pe_op _ _ _ _ _ _ _ _ o_mulB (dv 2) (dv 2)) pe_int)))))),?_⟩
      have at':∀ {j:Nat} (h:j < ns.length),atI (ns.map V.int) (j:Int) = some (.int (ns.getD j 0)):=fun {j} h=>by
        refine atI_nat ?_
        rw [List.getElem?_map,List.getD_eq_getElem?_getD,List.getElem?_eq_getElem h]
        rfl
      refine ⟨_, .inl hS, ?_⟩
      rw [List.length_map]
      refine ⟨fun h => ?_, fun h => ?_⟩
      · have h := of_decide_eq_true h
        obtain ⟨j, rfl⟩ := Int.eq_ofNat_of_zero_le k0
        have hj : j < ns.length := by omega
        exact ⟨_,_,hS,at' hj,q _ (by unfold cv47; rw [if_pos h]; rfl)⟩
      · have hlt := of_decide_eq_false h
        refine ⟨.inr (.inl ⟨by decide, by decide⟩), ?_⟩
        refine ⟨fun σ H'=>∃ z:Int,σ = [some (.ref a),some (.int k),some (.int z)]∧H' = H∧Builtin.Int.intBits z ≤ 1100000∧z = nv47 ns k,⟨_,.inl hS,⟨fun h=>?_,fun h=>⟨_,rfl,rfl,Nat.le_trans (intBits_le_64 (by omega) (by omega)) (by decide),?_⟩⟩⟩,?_⟩
        · have h := of_decide_eq_true h
          rw [List.length_map] at h
          refine ⟨.inr (.inr ⟨by decide,by decide⟩),_,.inl hS,?_⟩
          rw [List.length_map]
          refine ⟨h, ?_⟩
          have h0:0 ≤ k * 23 % (ns.length:Int):=Int.emod_nonneg _ (by omega)
          have h1:k * 23 % (ns.length:Int) < ns.length:=Int.emod_lt_of_pos _ (by omega)
          obtain ⟨j, hj⟩ := Int.eq_ofNat_of_zero_le h0
          have hj' : j < ns.length := by omega
          have hn : ns.getD j 0 ∈ ns := by
            rw [List.getD_eq_getElem?_getD,List.getElem?_eq_getElem hj']
            exact List.getElem_mem hj'
          have kk := sq_small' k0 k1
          refine ⟨_,.int (ns.getD j 0),hS,by show atI _ (k * 23 % (ns.length:Int)) = _; rw [hj]; exact at' hj',.inr (.inr ⟨by decide,by decide⟩),.inr (.inl ⟨by omega,by omega⟩),.inr (.inr ⟨by decide,by decide⟩),_,rfl,rfl,?_,?_⟩
          · refine Nat.le_trans (bits_add (m:=1048576 + 65) (n:=64) (Nat.le_trans (bits_add (m:=1048576 + 64) (n:=64) (bits_mul (m:=1048576) (n:=64) (hb _ hn) (intBits_le_64 (by decide) (by decide))) (intBits_le_64 (by omega) (by omega))) (by decide)) (intBits_le_64 (by decide) (by decide))) (by decide)
          · unfold nv47
            rw [if_pos (by omega), hj]
            rfl
        · have h := of_decide_eq_false h
          rw [List.length_map] at h
          unfold nv47
          rw [if_neg (by omega)]
        · rintro σ H' ⟨z, rfl, rfl, bz, ez⟩
          refine ⟨mulOk_of_bits bz bz (by decide),(by show (0:Int) < _; decide),q _ ?_⟩
          unfold cv47
          rw [if_neg hlt, ← ez]
def Kn (K:PySem.W.Frag) (so:Int) (C:Addr):Prop:=(so = 0∧PySem.W.nsIn K mainGlobals "Rule" = some (some (.ref C))) ∨ (so = 1∧PySem.W.nsIn K mainGlobals "Early" = some (some (.ref C))) ∨ (so = 2∧PySem.W.nsIn K mainGlobals "Rested" = some (some (.ref C))) ∨ (so = 3∧PySem.W.nsIn K mainGlobals "Capped" = some (some (.ref C)))
structure Fds (fs:List (Str × V)) (so st fi one two:Int) (T:Addr):Prop where
  st : fs.lookup ("step" : Str) = some (.int st)
  fi : fs.lookup ("first" : Str) = some (.int fi)
  tb : fs.lookup ("table" : Str) = some (.ref T)
  sz : fs.lookup ("size" : Str) = none
  bt : fs.lookup ("bit" : Str) = none
  x1:so = 1→fs.lookup ("early":Str) = some (.int one)∧fs.lookup ("many":Str) = some (.int two)
  x2:so = 2→fs.lookup ("pause":Str) = some (.int one)∧fs.lookup ("times":Str) = some (.int two)
  x3 : so = 3 → fs.lookup ("cap" : Str) = some (.int one)
theorem ns_inj' {K:PySem.W.Frag} {x:Str} {C D:Addr} (h:PySem.W.nsIn K mainGlobals x = some (some (.ref C))) (h':PySem.W.nsIn K mainGlobals x = some (some (.ref D))):C = D:=by
  rw [h] at h'
  cases h'
  rfl
def sp_Rule_size (K:PySem.W.Frag) (ns:List Int):Sp:=fun vs H Q _=>match vs with
  | [.ref a,.int p,.int r]=>∃ C dx fs st,(H a = some (.ins C dx fs)∧Cls K C∧NoAttr K C "step"∧fs.lookup ("step":Str) = some (.int st))∧Q (.int st) H
  | _ => False
theorem sc_Rule_size:FnScope ["self","played","rest"] ["self","played","rest"] (defScope s_Rule_size):=⟨rfl,rfl,rfl,by decide +kernel,rfl,by decide +kernel,by decide +kernel⟩
theorem ok_Rule_size (d:DfnM K [c_Rule,c_Capped] [] "size" "Rule.size" s_Rule_size ["self","played","rest"]) (er:Errs K mg c_Capped c_Early c_NoTable c_Rested c_Rule)   :CalM P w K mg base [c_Rule,c_Capped] [] "size" ["self","played","rest"] 1 (sp_Rule_size K ns):=by
  refine d.cal (k:=0) sc_Rule_size (fun vs H Q E h=>?_) (fun f cdv A outer s H vs Q E hr h=>?_)
  · match vs, h with
    | [.ref a, .int p, .int r], _ => rfl
  · match vs, h with
    | [.ref a, .int p, .int r], hq0 =>
      obtain ⟨C, dx, fs, st, ⟨h1, h2, h3, h4⟩, q⟩ := hq0
      refine ⟨_,(@pss_one _ _ _ (@ps_ret _ _ _ _ (@pe_fld _ _ _ _ _ (dv 0) (by rfl)))),?_⟩
      exact ⟨a, C, dx, fs, _, rfl, h1, h2, h3, h4, q⟩
def sp_Early_size (K:PySem.W.Frag) (ns:List Int):Sp:=fun vs H Q _=>match vs with
  | [.ref a,.int p,.int r]=>∃ C dx fs st one two,(H a = some (.ins C dx fs)∧Cls K C∧NoAttr K C "step"∧NoAttr K C "early"∧NoAttr K C "many"∧fs.lookup ("step":Str) = some (.int st)∧fs.lookup ("early":Str) = some (.int one)∧fs.lookup ("many":Str) = some (.int two))∧Q (.int (if p < two then one else st)) H
  | _ => False
theorem sc_Early_size:FnScope ["self","played","rest"] ["self","played","rest"] (defScope s_Early_size):=⟨rfl,rfl,rfl,by decide +kernel,rfl,by decide +kernel,by decide +kernel⟩
theorem ok_Early_size (d:DfnM K [c_Early] [] "size" "Early.size" s_Early_size ["self","played","rest"]) (er:Errs K mg c_Capped c_Early c_NoTable c_Rested c_Rule)   :CalM P w K mg base [c_Early] [] "size" ["self","played","rest"] 1 (sp_Early_size K ns):=by
  refine d.cal (k:=0) sc_Early_size (fun vs H Q E h=>?_) (fun f cdv A outer s H vs Q E hr h=>?_)
  · match vs, h with
    | [.ref a, .int p, .int r], _ => rfl
  · match vs, h with
    | [.ref a, .int p, .int r], hq0 =>
      obtain ⟨C,dx,fs,st,one,two,⟨h1,h2,h3,h4,h5,h6,h7,h8⟩,q⟩:=hq0
      refine ⟨_,(@pss_one _ _ _ (@ps_ret _ _ _ _ (@e_if _ _ _ _ _ _ _ _ (@t_cmp _ _ _ _ _ _ _ _ o_lt (dv 1) (@pe_fld _ _ _ _ _ (dv 0) (by rfl)) (@nomark _ _ (by decide) (by decide))) (@pe_fld _ _ _ _ _ (dv 0) (by rfl)) (@pe_fld _ _ _ _ _ (dv 0) (by rfl))))),?_⟩
      refine ⟨a,C,dx,fs,_,rfl,h1,h2,h5,h8,⟨fun h=>?_,fun h=>?_⟩⟩
      · have h : p < two := of_decide_eq_true h
        rw [if_pos h] at q
        exact ⟨a, C, dx, fs, _, rfl, h1, h2, h4, h7, q⟩
      · have h : ¬ p < two := of_decide_eq_false h
        rw [if_neg h] at q
        exact ⟨a, C, dx, fs, _, rfl, h1, h2, h3, h6, q⟩
def sp_Rested_size (K:PySem.W.Frag) (ns:List Int):Sp:=fun vs H Q _=>match vs with
  | [.ref a,.int p,.int r]=>∃ C dx fs st one two,(H a = some (.ins C dx fs)∧Cls K C∧NoAttr K C "step"∧NoAttr K C "pause"∧NoAttr K C "times"∧fs.lookup ("step":Str) = some (.int st)∧fs.lookup ("pause":Str) = some (.int one)∧fs.lookup ("times":Str) = some (.int two)∧Bd 40 st∧Bd 40 two)∧Q (.int (if one < r then st * two else st)) H
  | _ => False
theorem sc_Rested_size:FnScope ["self","played","rest"] ["self","played","rest"] (defScope s_Rested_size):=⟨rfl,rfl,rfl,by decide +kernel,rfl,by decide +kernel,by decide +kernel⟩
theorem ok_Rested_size (d:DfnM K [c_Rested] [] "size" "Rested.size" s_Rested_size ["self","played","rest"]) (er:Errs K mg c_Capped c_Early c_NoTable c_Rested c_Rule)   :CalM P w K mg base [c_Rested] [] "size" ["self","played","rest"] 1 (sp_Rested_size K ns):=by
  refine d.cal (k:=0) sc_Rested_size (fun vs H Q E h=>?_) (fun f cdv A outer s H vs Q E hr h=>?_)
  · match vs, h with
    | [.ref a, .int p, .int r], _ => rfl
  · match vs, h with
    | [.ref a, .int p, .int r], hq0 =>
      obtain ⟨C,dx,fs,st,one,two,⟨h1,h2,h3,h4,h5,h6,h7,h8,b1,b2⟩,q⟩:=hq0
      refine ⟨_,(@pss_one _ _ _ (@ps_ret _ _ _ _ (@e_if _ _ _ _ _ _ _ _ (@t_cmp _ _ _ _ _ _ _ _ o_gt (dv 2) (@pe_fld _ _ _ _ _ (dv 0) (by rfl)) (@nomark _ _ (by decide) (by decide))) (@pe_op _ _ _ _ _ _ _ _ o_mul (@pe_fld _ _ _ _ _ (dv 0) (by rfl)) (@pe_fld _ _ _ _ _ (dv 0) (by rfl))) (@pe_fld _ _ _ _ _ (dv 0) (by rfl))))),?_⟩
      refine ⟨a,C,dx,fs,_,rfl,h1,h2,h4,h7,⟨fun h=>?_,fun h=>?_⟩⟩
      · have h : one < r := of_decide_eq_true h
        rw [if_pos h] at q
        exact ⟨a,C,dx,fs,_,rfl,h1,h2,h3,h6,a,C,dx,fs,_,rfl,h1,h2,h5,h8,cok b1 b2 (by decide) (by decide),q⟩
      · have h : ¬ one < r := of_decide_eq_false h
        rw [if_neg h] at q
        exact ⟨a, C, dx, fs, _, rfl, h1, h2, h3, h6, q⟩
theorem lk_hit {f:Str} {v:V} {fs:List (Str × V)}:(putF f v fs).lookup f = some v:=by rw [lookup_putF,if_pos rfl]
theorem lk_miss {f g:Str} {v:V} {fs:List (Str × V)} {o:Option V} (ne:g ≠ f) (h:fs.lookup g = o):(putF f v fs).lookup g = o:=by rw [lookup_putF,if_neg ne,h]
def Sx (x:Addr) (H H':Hp):Prop:=∀ b o,b ≠ x→H b = some o→H' b = some o
theorem Sx.upd {x:Addr} {H:Hp} {o:HO}:Sx x H (upd H x o):=fun b u ne e=>by rw [upd_ne ne]; exact e
theorem Sx.trans {x:Addr} {H H1 H2:Hp} (a:Sx x H H1) (b:Sx x H1 H2):Sx x H H2:=fun c o ne e=>b c o ne (a c o ne e)
theorem Sx.of {x:Addr} {H H':Hp} (s:Same H H'):Sx x H H':=fun b o _ e=>s b o e
theorem Sx.kt {x C dx:Addr} {fs:List (Str × V)} {H H':Hp} (a:Sx x H H') (h:H x = some (.ins C dx fs)):Kt H H':=fun p xs e=>a p _ (fun z=>by rw [z,h] at e; cases e) e
def putR (st fi:Int) (T:Addr) (fs:List (Str × V)):List (Str × V):=putF "table" (.ref T) (putF "first" (.int fi) (putF "step" (.int st) fs))
theorem len_putR {st fi:Int} {T:Addr} {fs:List (Str × V)}:(putR st fi T fs).length ≤ fs.length + 3:=by
  unfold putR
  have h1 := length_putF "step" (.int st) fs
  have h2:=length_putF "first" (.int fi) (putF "step" (.int st) fs)
  have h3:=length_putF "table" (.ref T) (putF "first" (.int fi) (putF "step" (.int st) fs))
  omega
def sp_Rule___init__ (K:PySem.W.Frag) (ns:List Int):Sp:=fun vs H Q _=>match vs with
  | [.ref x,.int st,.int fi,.ref L]=>∃ C dx fs rows vs,(H x = some (.ins C dx fs)∧Cls K C∧NoAttr K C "step"∧NoAttr K C "first"∧NoAttr K C "table"∧fs.length < 900∧H L = some (.lst vs)∧All2 (RoAt H) vs rows∧GoodT rows) ∧
    ∀ T H',Sx x H H'→T ≠ x→H T = none→H' T = some (.lst vs)→H' x = some (.ins C dx (putR st fi T fs))→Q .non H'
  | _ => False
theorem sc_Rule___init__:FnScope ["self","step","first","table"] ["self","step","first","table"] (defScope s_Rule___init__):=⟨rfl,rfl,rfl,by decide +kernel,rfl,by decide +kernel,by decide +kernel⟩
theorem ok_Rule___init__ (d:DfnM K [c_Rule] [c_Rule] "__init__" "Rule.__init__" s_Rule___init__ ["self","step","first","table"]) (er:Errs K mg c_Capped c_Early c_NoTable c_Rested c_Rule)   (c_table_of:Cal P w K mg base "table_of" ["rows"] 5 (sp_table_of K ns)):CalM P w K mg base [c_Rule] [c_Rule] "__init__" ["self","step","first","table"] 6 (sp_Rule___init__ K ns):=by
  refine d.cal (k:=5) sc_Rule___init__ (fun vs H Q E h=>?_) (fun f cdv A outer s H vs Q E hr h=>?_)
  · match vs, h with
    | [.ref x, .int st, .int fi, .ref L], _ => rfl
  · match vs, h with
    | [.ref x, .int st, .int fi, .ref L], hq0 =>
      obtain ⟨C,dx,fs,rows,vs,⟨h1,h2,n1,n2,n3,l9,hL,al,good⟩,k⟩:=hq0
      refine ⟨_,(@pss_cons _ _ _ _ _ (@ps_fld _ _ _ _ _ _ _ _ (dv 0) (dv 1) rfl) (@pss_cons _ _ _ _ _ (@ps_fld _ _ _ _ _ _ _ _ (dv 0) (dv 2) rfl) (@pss_one _ _ _ (@ps_fld _ _ _ _ _ _ _ _ (dv 0) (@e_call _ _ _ _ _ _ _ _ _ _ _ c_table_of hr (by decide) (by rfl) (@pa_cons _ _ _ _ _ (dv 3) pa_nil (by rfl)) (by decide) (by rfl) (by rfl)) rfl)))),?_⟩
      have l1 := length_putF "step" (.int st) fs
      have l2:=length_putF "first" (.int fi) (putF "step" (.int st) fs)
      have nL:L ≠ x:=fun z=>by rw [z,h1] at hL; cases hL
      refine ⟨x,C,dx,fs,rfl,h1,h2,n1,by omega,⟨x,C,dx,_,rfl,upd_same,h2,n2,by omega,?_⟩⟩
      have s2:Sx x H (upd (upd H x (.ins C dx (putF "step" (.int st) fs))) x (.ins C dx (putF "first" (.int fi) (putF "step" (.int st) fs)))):=Sx.trans Sx.upd Sx.upd
      have e2:upd (upd H x (.ins C dx (putF "step" (.int st) fs))) x (.ins C dx (putF "first" (.int fi) (putF "step" (.int st) fs))) x = some (.ins C dx (putF "first" (.int fi) (putF "step" (.int st) fs))):=upd_same
      generalize upd (upd H x (.ins C dx (putF "step" (.int st) fs))) x (.ins C dx (putF "first" (.int fi) (putF "step" (.int st) fs))) = H2 at s2 e2
      have hL2 := s2 _ _ nL hL
      have al2:All2 (RoAt H2) vs rows:=al.imp fun v g r=>ro_up v g _ _ (s2.kt h1) r
      have lv : vs.length = rows.length := al.len
      have lr := good.1
      refine ⟨some (rows.map some),.inl ⟨L,vs,rows.map some,rfl,hL2,by omega,a2_rw al2,rfl⟩,fun h=>absurd ⟨rows,rfl,good⟩ (h _ rfl),fun rows' vs' l' el hl' eo _ T H3 s3 n3' e3=>?_⟩
      cases el
      rw [hL2] at hl'
      cases hl'
      have nT:T ≠ x:=fun z=>by rw [z,e2] at n3'; cases n3'
      refine ⟨x,C,dx,_,rfl,s3 _ _ e2,h2,n3,by omega,?_⟩
      refine k T _ (s2.trans (Sx.trans (Sx.of s3) Sx.upd)) nT ?_ (by rw [upd_ne nT]; exact e3) upd_same
      cases e : H T with
      | none => rfl
      | some o =>
        rw [s2 _ _ nT e] at n3'
        cases n3'
theorem fd0 {st fi:Int} {T:Addr} {fs:List (Str × V)} (h:fs = []):Fds (putR st fi T fs) 0 st fi 0 0 T:=by
  subst h
  exact ⟨lk_miss (by decide +kernel) (lk_miss (by decide +kernel) lk_hit),lk_miss (by decide +kernel) lk_hit,lk_hit,lk_miss (by decide +kernel) (lk_miss (by decide +kernel) (lk_miss (by decide +kernel) rfl)),lk_miss (by decide +kernel) (lk_miss (by decide +kernel) (lk_miss (by decide +kernel) rfl)),fun h=>absurd h (by decide),fun h=>absurd h (by decide),fun h=>absurd h (by decide)⟩
def sp_Early___init__ (K:PySem.W.Frag) (ns:List Int):Sp:=fun vs H Q _=>match vs with
  | [.ref x,.int st,.int fi,.ref L,.int one,.int two]=>∃ C dx rows vs,(H x = some (.ins C dx [])∧PySem.W.nsIn K mainGlobals "Early" = some (some (.ref C))∧H L = some (.lst vs)∧All2 (RoAt H) vs rows∧GoodT rows) ∧
    ∀ T fs H',Sx x H H'→T ≠ x→H T = none→H' T = some (.lst vs)→H' x = some (.ins C dx fs)→Fds fs 1 st fi one two T→Q .non H'
  | _ => False
theorem sc_Early___init__:FnScope ["self","step","first","table","early","many"] ["self","step","first","table","early","many"] (defScope s_Early___init__):=⟨rfl,rfl,rfl,by decide +kernel,rfl,by decide +kernel,by decide +kernel⟩
theorem ok_Early___init__ (d:DfnM K [c_Early] [] "__init__" "Early.__init__" s_Early___init__ ["self","step","first","table","early","many"]) (er:Errs K mg c_Capped c_Early c_NoTable c_Rested c_Rule)   (c_Rule___init__:CalM P w K mg base [c_Rule] [c_Rule] "__init__" ["self","step","first","table"] 6 (sp_Rule___init__ K ns)):CalM P w K mg base [c_Early] [] "__init__" ["self","step","first","table","early","many"] 7 (sp_Early___init__ K ns):=by
  refine d.cal (k:=6) sc_Early___init__ (fun vs H Q E h=>?_) (fun f cdv A outer s H vs Q E hr h=>?_)
  · match vs, h with
    | [.ref x,.int st,.int fi,.ref L,.int one,.int two],_=>rfl
  · match vs, h with
    | [.ref x,.int st,.int fi,.ref L,.int one,.int two],hq0 =>
      obtain ⟨C,dx,rows,vs,⟨h1,hC,hL,al,good⟩,k⟩:=hq0
      refine ⟨_,(@pss_cons _ _ _ _ _ (@ps_expr _ _ _ _ (e_clsC c_Rule___init__ (List.Mem.head _) er.r_Rule hr (by decide) (by rfl) er.b_Rule (@pa_cons _ _ _ _ _ (dv 0) (@pa_cons _ _ _ _ _ (dv 1) (@pa_cons _ _ _ _ _ (dv 2) (@pa_cons _ _ _ _ _ (dv 3) pa_nil (by rfl)) (by rfl)) (by rfl)) (by rfl))) (by rfl)) (@pss_cons _ _ _ _ _ (@ps_fld _ _ _ _ _ _ _ _ (dv 0) (dv 4) rfl) (@pss_one _ _ _ (@ps_fld _ _ _ _ _ _ _ _ (dv 0) (dv 5) rfl)))),?_⟩
      have z := ns_inj' hC er.y_Early
      subst z
      refine ⟨_,dx,[],rows,vs,⟨h1,er.l_Early,er.na_Early_step,er.na_Early_first,er.na_Early_table,by decide,hL,al,good⟩,fun T H1 s1 nT n1 eT e1=>?_⟩
      have l1:=len_putR (st:=st) (fi:=fi) (T:=T) (fs:=[])
      have l2:=length_putF "early" (.int one) (putR st fi T [])
      refine ⟨x,_,dx,_,rfl,e1,er.l_Early,er.na_Early_early,Nat.lt_of_le_of_lt l1 (by decide),⟨x,_,dx,_,rfl,upd_same,er.l_Early,er.na_Early_many,Nat.lt_of_le_of_lt l2 (Nat.lt_of_le_of_lt (Nat.succ_le_succ l1) (by decide)),?_⟩⟩
      refine k T _ _ (s1.trans (Sx.trans Sx.upd Sx.upd)) nT n1 (by rw [upd_ne nT,upd_ne nT]; exact eT) upd_same ?_
      have f:=fd0 (st:=st) (fi:=fi) (T:=T) (fs:=[]) rfl
      exact ⟨lk_miss (by decide +kernel) (lk_miss (by decide +kernel) f.st),lk_miss (by decide +kernel) (lk_miss (by decide +kernel) f.fi),lk_miss (by decide +kernel) (lk_miss (by decide +kernel) f.tb),lk_miss (by decide +kernel) (lk_miss (by decide +kernel) f.sz),lk_miss (by decide +kernel) (lk_miss (by decide +kernel) f.bt),fun _=>⟨lk_miss (by decide +kernel) lk_hit,lk_hit⟩,fun h=>absurd h (by decide),fun h=>absurd h (by decide)⟩
def sp_Rested___init__ (K:PySem.W.Frag) (ns:List Int):Sp:=fun vs H Q _=>match vs with
  | [.ref x,.int st,.int fi,.ref L,.int one,.int two]=>∃ C dx rows vs,(H x = some (.ins C dx [])∧PySem.W.nsIn K mainGlobals "Rested" = some (some (.ref C))∧H L = some (.lst vs)∧All2 (RoAt H) vs rows∧GoodT rows) ∧
    ∀ T fs H',Sx x H H'→T ≠ x→H T = none→H' T = some (.lst vs)→H' x = some (.ins C dx fs)→Fds fs 2 st fi one two T→Q .non H'
  | _ => False
theorem sc_Rested___init__:FnScope ["self","step","first","table","pause","times"] ["self","step","first","table","pause","times"] (defScope s_Rested___init__):=⟨rfl,rfl,rfl,by decide +kernel,rfl,by decide +kernel,by decide +kernel⟩
theorem ok_Rested___init__ (d:DfnM K [c_Rested] [] "__init__" "Rested.__init__" s_Rested___init__ ["self","step","first","table","pause","times"]) (er:Errs K mg c_Capped c_Early c_NoTable c_Rested c_Rule)   (c_Rule___init__:CalM P w K mg base [c_Rule] [c_Rule] "__init__" ["self","step","first","table"] 6 (sp_Rule___init__ K ns)):CalM P w K mg base [c_Rested] [] "__init__" ["self","step","first","table","pause","times"] 7 (sp_Rested___init__ K ns):=by
  refine d.cal (k:=6) sc_Rested___init__ (fun vs H Q E h=>?_) (fun f cdv A outer s H vs Q E hr h=>?_)
  · match vs, h with
    | [.ref x,.int st,.int fi,.ref L,.int one,.int two],_=>rfl
  · match vs, h with
    | [.ref x,.int st,.int fi,.ref L,.int one,.int two],hq0 =>
      obtain ⟨C,dx,rows,vs,⟨h1,hC,hL,al,good⟩,k⟩:=hq0
      refine ⟨_,(@pss_cons _ _ _ _ _ (@ps_expr _ _ _ _ (e_clsC c_Rule___init__ (List.Mem.head _) er.r_Rule hr (by decide) (by rfl) er.b_Rule (@pa_cons _ _ _ _ _ (dv 0) (@pa_cons _ _ _ _ _ (dv 1) (@pa_cons _ _ _ _ _ (dv 2) (@pa_cons _ _ _ _ _ (dv 3) pa_nil (by rfl)) (by rfl)) (by rfl)) (by rfl))) (by rfl)) (@pss_cons _ _ _ _ _ (@ps_fld _ _ _ _ _ _ _ _ (dv 0) (dv 4) rfl) (@pss_one _ _ _ (@ps_fld _ _ _ _ _ _ _ _ (dv 0) (dv 5) rfl)))),?_⟩
      have z := ns_inj' hC er.y_Rested
      subst z
      refine ⟨_,dx,[],rows,vs,⟨h1,er.l_Rested,er.na_Rested_step,er.na_Rested_first,er.na_Rested_table,by decide,hL,al,good⟩,fun T H1 s1 nT n1 eT e1=>?_⟩
      have l1:=len_putR (st:=st) (fi:=fi) (T:=T) (fs:=[])
      have l2:=length_putF "pause" (.int one) (putR st fi T [])
      refine ⟨x,_,dx,_,rfl,e1,er.l_Rested,er.na_Rested_pause,Nat.lt_of_le_of_lt l1 (by decide),⟨x,_,dx,_,rfl,upd_same,er.l_Rested,er.na_Rested_times,Nat.lt_of_le_of_lt l2 (Nat.lt_of_le_of_lt (Nat.succ_le_succ l1) (by decide)),?_⟩⟩
      refine k T _ _ (s1.trans (Sx.trans Sx.upd Sx.upd)) nT n1 (by rw [upd_ne nT,upd_ne nT]; exact eT) upd_same ?_
      have f:=fd0 (st:=st) (fi:=fi) (T:=T) (fs:=[]) rfl
      exact ⟨lk_miss (by decide +kernel) (lk_miss (by decide +kernel) f.st),lk_miss (by decide +kernel) (lk_miss (by decide +kernel) f.fi),lk_miss (by decide +kernel) (lk_miss (by decide +kernel) f.tb),lk_miss (by decide +kernel) (lk_miss (by decide +kernel) f.sz),lk_miss (by decide +kernel) (lk_miss (by decide +kernel) f.bt),fun h=>absurd h (by decide),fun _=>⟨lk_miss (by decide +kernel) lk_hit,lk_hit⟩,fun h=>absurd h (by decide)⟩
def sp_Capped___init__ (K:PySem.W.Frag) (ns:List Int):Sp:=fun vs H Q _=>match vs with
  | [.ref x,.int st,.int fi,.ref L,.int one]=>∃ C dx rows vs,(H x = some (.ins C dx [])∧PySem.W.nsIn K mainGlobals "Capped" = some (some (.ref C))∧H L = some (.lst vs)∧All2 (RoAt H) vs rows∧GoodT rows) ∧
    ∀ T fs H',Sx x H H'→T ≠ x→H T = none→H' T = some (.lst vs)→H' x = some (.ins C dx fs)→(∀ two,Fds fs 3 st fi one two T)→Q .non H'
  | _ => False
theorem sc_Capped___init__:FnScope ["self","step","first","table","cap"] ["self","step","first","table","cap"] (defScope s_Capped___init__):=⟨rfl,rfl,rfl,by decide +kernel,rfl,by decide +kernel,by decide +kernel⟩
theorem ok_Capped___init__ (d:DfnM K [c_Capped] [] "__init__" "Capped.__init__" s_Capped___init__ ["self","step","first","table","cap"]) (er:Errs K mg c_Capped c_Early c_NoTable c_Rested c_Rule)   (c_Rule___init__:CalM P w K mg base [c_Rule] [c_Rule] "__init__" ["self","step","first","table"] 6 (sp_Rule___init__ K ns)):CalM P w K mg base [c_Capped] [] "__init__" ["self","step","first","table","cap"] 7 (sp_Capped___init__ K ns):=by
  refine d.cal (k:=6) sc_Capped___init__ (fun vs H Q E h=>?_) (fun f cdv A outer s H vs Q E hr h=>?_)
  · match vs, h with
    | [.ref x, .int st, .int fi, .ref L, .int one], _ => rfl
  · match vs, h with
    | [.ref x, .int st, .int fi, .ref L, .int one], hq0 =>
      obtain ⟨C,dx,rows,vs,⟨h1,hC,hL,al,good⟩,k⟩:=hq0
      refine ⟨_,(@pss_cons _ _ _ _ _ (@ps_expr _ _ _ _ (e_clsC c_Rule___init__ (List.Mem.head _) er.r_Rule hr (by decide) (by rfl) er.b_Rule (@pa_cons _ _ _ _ _ (dv 0) (@pa_cons _ _ _ _ _ (dv 1) (@pa_cons _ _ _ _ _ (dv 2) (@pa_cons _ _ _ _ _ (dv 3) pa_nil (by rfl)) (by rfl)) (by rfl)) (by rfl))) (by rfl)) (@pss_one _ _ _ (@ps_fld _ _ _ _ _ _ _ _ (dv 0) (dv 4) rfl))),?_⟩
      have z := ns_inj' hC er.y_Capped
      subst z
      refine ⟨_,dx,[],rows,vs,⟨h1,er.l_Capped,er.na_Capped_step,er.na_Capped_first,er.na_Capped_table,by decide,hL,al,good⟩,fun T H1 s1 nT n1 eT e1=>?_⟩
      have l1:=len_putR (st:=st) (fi:=fi) (T:=T) (fs:=[])
      refine ⟨x,_,dx,_,rfl,e1,er.l_Capped,er.na_Capped_cap,Nat.lt_of_le_of_lt l1 (by decide),?_⟩
      refine k T _ _ (s1.trans Sx.upd) nT n1 (by rw [upd_ne nT]; exact eT) upd_same fun two=>?_
      have f:=fd0 (st:=st) (fi:=fi) (T:=T) (fs:=[]) rfl
      exact ⟨lk_miss (by decide +kernel) f.st,lk_miss (by decide +kernel) f.fi,lk_miss (by decide +kernel) f.tb,lk_miss (by decide +kernel) f.sz,lk_miss (by decide +kernel) f.bt,fun h=>absurd h (by decide),fun h=>absurd h (by decide),fun _=>lk_hit⟩
def szR (so st one two p r:Int):Int:=if so = 1∧p < two then one else if so = 2∧one < r then st * two else st
structure Nb (st one two : Int) : Prop where
  s0 : 0 ≤ st
  s1 : st ≤ 1000000
  o0 : 0 ≤ one
  o1 : one ≤ 1000001
  t0 : 0 ≤ two
  t1 : two ≤ 1000001
theorem Nb.bst {st one two:Int} (h:Nb st one two):Bd 40 st:=bd_of (b:=1000001) (by have:=h.s0; omega) (by have:=h.s1; omega) (bd_lit rfl)
theorem Nb.bon {st one two:Int} (h:Nb st one two):Bd 40 one:=bd_of (b:=1000001) (by have:=h.o0; omega) h.o1 (bd_lit rfl)
theorem Nb.btw {st one two:Int} (h:Nb st one two):Bd 40 two:=bd_of (b:=1000001) (by have:=h.t0; omega) h.t1 (bd_lit rfl)
theorem szR_bd {so st one two p r:Int} (h:Nb st one two):Bd 80 (szR so st one two p r):=by
  unfold szR
  split
  · exact h.bon.mono (by decide)
  · split
    · exact h.bst.mul h.btw
    · exact h.bst.mono (by decide)
def SzT (K:PySem.W.Frag) (T:List (Addr × Sp)):Prop:=∀ so C,Kn K so C→∃ sp,(C,sp) ∈ T∧∀ fs st fi one two Tb,Fds fs so st fi one two Tb→Nb st one two→∀ a dx H p r Q,H a = some (.ins C dx fs)→Q (.int (szR so st one two p r)) H→sp [.ref a,.int p,.int r] H Q E0
theorem sz_mk {K:PySem.W.Frag} {ns:List Int} {c0 c1 c2 c3:Addr} (y0:PySem.W.nsIn K mainGlobals "Rule" = some (some (.ref c0))) (y1:PySem.W.nsIn K mainGlobals "Early" = some (some (.ref c1))) (y2:PySem.W.nsIn K mainGlobals "Rested" = some (some (.ref c2))) (y3:PySem.W.nsIn K mainGlobals "Capped" = some (some (.ref c3)))
    (l0:Cls K c0) (l1:Cls K c1) (l2:Cls K c2) (l3:Cls K c3) (n0:NoAttr K c0 "step") (n1:NoAttr K c1 "step") (n2:NoAttr K c2 "step") (n3:NoAttr K c3 "step") (e1:NoAttr K c1 "early") (m1:NoAttr K c1 "many") (p2:NoAttr K c2 "pause") (t2:NoAttr K c2 "times") :
    SzT K [(c0,sp_Rule_size K ns),(c1,sp_Early_size K ns),(c2,sp_Rested_size K ns),(c3,sp_Rule_size K ns)]:=by
  rintro so C (⟨rfl, h⟩ | ⟨rfl, h⟩ | ⟨rfl, h⟩ | ⟨rfl, h⟩)
  · have z := ns_inj' h y0
    subst z
    refine ⟨_,.head _,fun fs st fi one two Tb f b a dx H p r Q e q=>⟨_,dx,fs,st,⟨e,l0,n0,f.st⟩,?_⟩⟩
    have : szR 0 st one two p r = st := by
      unfold szR
      rw [if_neg (fun c=>absurd c.1 (by decide)),if_neg (fun c=>absurd c.1 (by decide))]
    rw [this] at q
    exact q
  · have z := ns_inj' h y1
    subst z
    refine ⟨_,.tail _ (.head _),fun fs st fi one two Tb f b a dx H p r Q e q=>⟨_,dx,fs,st,one,two,⟨e,l1,n1,e1,m1,f.st,(f.x1 rfl).1,(f.x1 rfl).2⟩,?_⟩⟩
    have:szR 1 st one two p r = if p < two then one else st:=by
      unfold szR
      by_cases c : p < two
      · rw [if_pos ⟨rfl, c⟩, if_pos c]
      · rw [if_neg (fun z=>c z.2),if_neg c,if_neg (fun c=>absurd c.1 (by decide))]
    rw [this] at q
    exact q
  · have z := ns_inj' h y2
    subst z
    refine ⟨_,.tail _ (.tail _ (.head _)),fun fs st fi one two Tb f b a dx H p r Q e q=>⟨_,dx,fs,st,one,two,⟨e,l2,n2,p2,t2,f.st,(f.x2 rfl).1,(f.x2 rfl).2,b.bst,b.btw⟩,?_⟩⟩
    have:szR 2 st one two p r = if one < r then st * two else st:=by
      unfold szR
      rw [if_neg (fun c => absurd c.1 (by decide))]
      by_cases c : one < r
      · rw [if_pos ⟨rfl, c⟩, if_pos c]
      · rw [if_neg (fun z => c z.2), if_neg c]
    rw [this] at q
    exact q
  · have z := ns_inj' h y3
    subst z
    refine ⟨_,.tail _ (.tail _ (.tail _ (.head _))),fun fs st fi one two Tb f b a dx H p r Q e q=>⟨_,dx,fs,st,⟨e,l3,n3,f.st⟩,?_⟩⟩
    have : szR 3 st one two p r = st := by
      unfold szR
      rw [if_neg (fun c=>absurd c.1 (by decide)),if_neg (fun c=>absurd c.1 (by decide))]
    rw [this] at q
    exact q
theorem due_ok {rows:List Rw} (tb:Tb rows) (t b:Int):0 ≤ (due rows t b).1∧(due rows t b).1 ≤ (due rows t b).2∧0 < (due rows t b).2∧(due rows t b).2 ≤ 9999:=by
  by_cases h : t < 0
  · obtain ⟨r,hr,e⟩:=pick_ok (b:=b) tb (show 0 ≤ -t by omega) (0,1)
    have o := tb.ok r hr
    have e' : due rows t b = (r.2.2 - r.2.1, r.2.2) := by
      rw [due_neg h, due_nn (show 0 ≤ -t by omega), e]
    rw [e']
    have o1 := o.t0
    have o2 := o.tb
    have o3 := o.b0
    have o4 := o.b1
    exact ⟨by show 0 ≤ r.2.2 - r.2.1; omega,by show r.2.2 - r.2.1 ≤ r.2.2; omega,o3,o4⟩
  · obtain ⟨r,hr,e⟩:=pick_ok (b:=b) tb (show 0 ≤ t by omega) (0,1)
    have o := tb.ok r hr
    rw [due_nn (by omega), e]
    exact ⟨o.t0, o.tb, o.b0, o.b1⟩
def unT (z h:Int) (x:Q2):Int:=z * (h * x.2 - 2 * x.1)
def unB (x : Q2) : Int := 2 * x.2
def unQ (z h:Int) (x:Q2):Q2:=(frT (unT z h x) (unB x),frB (unT z h x) (unB x))
structure ShQ (x : Q2) : Prop where
  t0 : 0 ≤ x.1
  tb : x.1 ≤ x.2
  b0 : 0 < x.2
  b1 : x.2 ≤ 9999
theorem sh_due {rows:List Rw} (tb:Tb rows) (t b:Int):ShQ (due rows t b):=by
  obtain ⟨h1, h2, h3, h4⟩ := due_ok tb t b
  exact ⟨h1, h2, h3, h4⟩
theorem ShQ.bT {x:Q2} {z h:Int} (s:ShQ x) (hz:Bd 80 z) (h0:0 ≤ h) (h2:h ≤ 2):Bd 20 h∧Bd 20 x.1∧Bd 20 x.2∧Bd 40 (h * x.2 - 2 * x.1)∧Bd 120 (unT z h x)∧Bd 40 (unB x):=by
  have s0 := s.t0
  have s1 := s.tb
  have s2 := s.b0
  have s3 := s.b1
  have b1:Bd 20 x.1:=bd_of (b:=9999) (by omega) (by omega) (bd_lit rfl)
  have b2:Bd 20 x.2:=bd_of (b:=9999) (by omega) (by omega) (bd_lit rfl)
  have b3:Bd 20 h:=bd_of (b:=2) (by omega) (by omega) (bd_lit rfl)
  have hm:h * x.2 ≤ 2 * x.2:=Int.mul_le_mul_of_nonneg_right h2 (by omega)
  have hn := Int.mul_nonneg h0 (show 0 ≤ x.2 by omega)
  have b4:Bd 40 (h * x.2 - 2 * x.1):=bd_of (b:=20000) (by omega) (by omega) (bd_lit rfl)
  exact ⟨b3,b1,b2,b4,hz.mul b4,bd_of (b:=20000) (by unfold unB; omega) (by unfold unB; omega) (bd_lit rfl)⟩
def sp_uncut_bit (K:PySem.W.Frag) (ns:List Int):Sp:=fun vs H Q _=>match vs with
  | [.int z,.ref s,.int h]=>∃ x:Q2,(H s = some (.tup [.int x.1,.int x.2])∧ShQ x∧Bd 80 z∧0 ≤ h∧h ≤ 2)∧∀ q H',Same H H'→H' q = some (.tup [.int (unQ z h x).1,.int (unQ z h x).2])→Q (.ref q) H'
  | _ => False
theorem sc_uncut_bit:FnScope ["size","share","halves"] ["size","share","halves"] (defScope s_uncut_bit):=⟨rfl,rfl,rfl,by decide +kernel,rfl,by decide +kernel,by decide +kernel⟩
theorem ok_uncut_bit (d:Dfn K mg "uncut_bit" s_uncut_bit ["size","share","halves"]) (er:Errs K mg c_Capped c_Early c_NoTable c_Rested c_Rule)   (c_fraction:Cal P w K mg base "fraction" ["top","bottom"] 2 (sp_fraction K ns)):Cal P w K mg base "uncut_bit" ["size","share","halves"] 3 (sp_uncut_bit K ns):=by
  refine d.cal (k:=2) sc_uncut_bit (fun vs H Q E h=>?_) (fun f cdv A outer s H vs Q E hr h=>?_)
  · match vs, h with
    | [.int z, .ref s, .int h], _ => rfl
  · match vs, h with
    | [.int z, .ref s, .int h], hq0 =>
      obtain ⟨x, ⟨hs, sh, bz, h0, h2⟩, k⟩ := hq0
      refine ⟨_,(@pss_one _ _ _ (@ps_ret _ _ _ _ (@e_call _ _ _ _ _ _ _ _ _ _ _ c_fraction hr (by decide) (by rfl) (@pa_cons _ _ _ _ _ (@pe_op _ _ _ _ _ _ _ _ o_mul (dv 0) (@pe_op _ _ _ _ _ _ _ _ o_sub (@pe_op _ _ _ _ _ _ _ _ o_mul (dv 2) (@pe_ix _ _ _ _ _ _ _ i_tup (dv 1) pe_int (fun _ _=>rfl))) (@pe_op _ _ _ _ _ _ _ _ o_mul pe_int (@pe_ix _ _ _ _ _ _ _ i_tup (dv 1) pe_int (fun _ _=>rfl))))) (@pa_cons _ _ _ _ _ (@pe_op _ _ _ _ _ _ _ _ o_mul pe_int (@pe_ix _ _ _ _ _ _ _ i_tup (dv 1) pe_int (fun _ _=>rfl))) pa_nil (by rfl)) (by rfl)) (by decide) (by rfl) (by rfl)))),?_⟩
      obtain ⟨b1, b2, b3, b4, b5, b6⟩ := sh.bT bz h0 h2
      have p := sh.b0
      exact ⟨_,hs,cok b1 b3 (by decide) (by decide),_,hs,cok (bd_lit (n:=20) rfl) b2 (by decide) (by decide),cok bz b4 (by decide) (by decide),_,hs,cok (bd_lit (n:=20) rfl) b3 (by decide) (by decide),⟨by show 2 * x.2 ≠ 0; omega,b6.mono (by decide)⟩,fun q H' s e=>k q H' s e.at'⟩
def cutQ (x:Q2) (c:Int):Q2:=if c * x.2 < x.1 then (c,1) else if x.1 < -c * x.2 then (-c,1) else x
def sp_cut (K:PySem.W.Frag) (ns:List Int):Sp:=fun vs H Q _=>match vs with
  | [.ref p,.int c]=>∃ x:Q2,(H p = some (.tup [.int x.1,.int x.2])∧Bd 200 x.1∧Bd 200 x.2∧Bd 200 c)∧∀ q H',Same H H'→H' q = some (.tup [.int (cutQ x c).1,.int (cutQ x c).2])→Q (.ref q) H'
  | _ => False
theorem sc_cut:FnScope ["one","cap"] ["one","cap"] (defScope s_cut):=⟨rfl,rfl,rfl,by decide +kernel,rfl,by decide +kernel,by decide +kernel⟩
theorem ok_cut (d:Dfn K mg "cut" s_cut ["one","cap"]) (er:Errs K mg c_Capped c_Early c_NoTable c_Rested c_Rule)   (c_under:Cal P w K mg base "under" ["one","other"] 1 (sp_under K ns)):Cal P w K mg base "cut" ["one","cap"] 2 (sp_cut K ns):=by
  refine d.cal (k:=1) sc_cut (fun vs H Q E h=>?_) (fun f cdv A outer s H vs Q E hr h=>?_)
  · match vs, h with
    | [.ref p, .int c], _ => rfl
  · match vs, h with
    | [.ref p, .int c], hq0 =>
      obtain ⟨x, ⟨hp, b1, b2, b3⟩, k⟩ := hq0
      refine ⟨_,(@pss_cons _ _ _ _ _ (@s_if _ _ _ _ _ _ _ _ (@t_val _ _ _ (@e_call _ _ _ _ _ _ _ _ _ _ _ c_under hr (by decide) (by rfl) (@pa_cons _ _ _ _ _ (@e_tup _ _ _ _ _ (@pa_cons _ _ _ _ _ (dv 1) (@pa_cons _ _ _ _ _ pe_int pa_nil (by rfl)) (by rfl))) (@pa_cons _ _ _ _ _ (dv 0) pa_nil (by rfl)) (by rfl)) (by decide) (by rfl) (by rfl)) (by intro _; rfl)) (@pss_one _ _ _ (@ps_ret _ _ _ _ (@e_tup _ _ _ _ _ (@pa_cons _ _ _ _ _ (dv 1) (@pa_cons _ _ _ _ _ pe_int pa_nil (by rfl)) (by rfl))))) pss_nil) (@pss_one _ _ _ (@ps_ret _ _ _ _ (@e_if _ _ _ _ _ _ _ _ (@t_val _ _ _ (@e_call _ _ _ _ _ _ _ _ _ _ _ c_under hr (by decide) (by rfl) (@pa_cons _ _ _ _ _ (dv 0) (@pa_cons _ _ _ _ _ (@e_tup _ _ _ _ _ (@pa_cons _ _ _ _ _ (@pe_un _ _ _ _ _ _ u_neg (dv 1)) (@pa_cons _ _ _ _ _ pe_int pa_nil (by rfl)) (by rfl))) pa_nil (by rfl)) (by rfl)) (by decide) (by rfl) (by rfl)) (by intro _; rfl)) (@e_tup _ _ _ _ _ (@pa_cons _ _ _ _ _ (@pe_un _ _ _ _ _ _ u_neg (dv 1)) (@pa_cons _ _ _ _ _ pe_int pa_nil (by rfl)) (by rfl))) (dv 0))))),?_⟩
      refine fun T H1 s1 e1=>⟨c,1,x.1,x.2,⟨e1,s1 _ _ hp⟩,⟨b3.mono (by decide),bd_lit rfl,b1.mono (by decide),b2.mono (by decide)⟩,⟨fun h=>?_,fun h=>?_⟩⟩
      · have h : c * x.2 < x.1 * 1 := of_decide_eq_true h
        refine fun T2 H2 s2 e2 => k T2 H2 (s1.trans s2) ?_
        rw [show cutQ x c = (c, 1) from if_pos (by omega)]
        exact e2
      · have h : ¬ c * x.2 < x.1 * 1 := of_decide_eq_false h
        refine fun T2 H2 s2 e2=>⟨x.1,x.2,-c,1,⟨(s1.trans s2) _ _ hp,e2⟩,⟨b1.mono (by decide),b2.mono (by decide),b3.neg.mono (by decide),bd_lit rfl⟩,⟨fun h'=>?_,fun h'=>?_⟩⟩
        · have h':x.1 * 1 < -c * x.2:=of_decide_eq_true h'
          refine fun T3 H3 s3 e3=>k T3 H3 (s1.trans (s2.trans s3)) ?_
          rw [show cutQ x c = (-c,1) from (if_neg (by omega)).trans (if_pos (by omega))]
          exact e3
        · have h':¬ x.1 * 1 < -c * x.2:=of_decide_eq_false h'
          refine k p H2 (s1.trans s2) ?_
          rw [show cutQ x c = x from (if_neg (by omega)).trans (if_neg (by omega))]
          exact (s1.trans s2) _ _ hp
def bitQ (so st one two p r h:Int) (x:Q2):Q2:=if so = 3 then cutQ (unQ (szR so st one two p r) h x) one else unQ (szR so st one two p r) h x
def RlAt (K:PySem.W.Frag) (H:Hp) (a:Addr) (so st fi one two:Int) (rows:List Rw):Prop:=∃ C dx fs T,H a = some (.ins C dx fs)∧Kn K so C∧Fds fs so st fi one two T∧TbA K H T rows
theorem RlAt.up {K:PySem.W.Frag} {H H':Hp} {a:Addr} {so st fi one two:Int} {rows:List Rw} (s:Same H H'):RlAt K H a so st fi one two rows→RlAt K H' a so st fi one two rows:=fun ⟨C,dx,fs,T,e,k,f,t⟩=>⟨C,dx,fs,T,s _ _ e,k,f,t.up s⟩
def sp_Rule_bit (K:PySem.W.Frag) (ns:List Int):Sp:=fun vs H Q _=>match vs with
  | [.ref a,.ref d,.int h,.int p,.int r]=>∃ (so st fi one two:Int) (rows:List Rw) (x:Q2),(RlAt K H a so st fi one two rows∧so ≠ 3∧Tb rows∧Nb st one two∧Fq 1300 H d x.1 x.2∧0 ≤ h∧h ≤ 2)∧∀ q H',Same H H'→H' q = some (.tup [.int (bitQ so st one two p r h (due rows x.1 x.2)).1,.int (bitQ so st one two p r h (due rows x.1 x.2)).2])→Q (.ref q) H'
  | _ => False
theorem sc_Rule_bit:FnScope ["self","difference","halves","played","rest"] ["self","difference","halves","played","rest"] (defScope s_Rule_bit):=⟨rfl,rfl,rfl,by decide +kernel,rfl,by decide +kernel,by decide +kernel⟩
theorem ok_Rule_bit (d:DfnM K [c_Rule,c_Early,c_Rested] [] "bit" "Rule.bit" s_Rule_bit ["self","difference","halves","played","rest"]) (er:Errs K mg c_Capped c_Early c_NoTable c_Rested c_Rule)   (c_uncut_bit:Cal P w K mg base "uncut_bit" ["size","share","halves"] 3 (sp_uncut_bit K ns)) (c_share_by:Cal P w K mg base "share_by" ["table","difference"] 6 (sp_share_by K ns)) (c_Rule_size:CalM P w K mg base [c_Rule,c_Capped] [] "size" ["self","played","rest"] 1 (sp_Rule_size K ns)) (c_Rested_size:CalM P w K mg base [c_Rested] [] "size" ["self","played","rest"] 1 (sp_Rested_size K ns)) (c_Early_size:CalM P w K mg base [c_Early] [] "size" ["self","played","rest"] 1 (sp_Early_size K ns)):CalM P w K mg base [c_Rule,c_Early,c_Rested] [] "bit" ["self","difference","halves","played","rest"] 7 (sp_Rule_bit K ns):=by
  refine d.cal (k:=6) sc_Rule_bit (fun vs H Q E h=>?_) (fun f cdv A outer s H vs Q E hr h=>?_)
  · match vs, h with
    | [.ref a, .ref d, .int h, .int p, .int r], _ => rfl
  · match vs, h with
    | [.ref a, .ref d, .int h, .int p, .int r], hq0 =>
      obtain ⟨so,st,fi,one,two,rows,x,⟨⟨C,dx,fs,T,e,kn,f,ht⟩,n3,tb,b,fx,h0,h2⟩,k⟩:=hq0
      refine ⟨_,(@pss_one _ _ _ (@ps_ret _ _ _ _ (@e_call _ _ _ _ _ _ _ _ _ _ _ c_uncut_bit hr (by decide) (by rfl) (@pa_cons _ _ _ _ _ (e_methV (dv 0) (mv_cons c_Rule_size (List.Mem.head _) er.l_Rule (by decide) (mv_cons c_Early_size (List.Mem.head _) er.l_Early (by decide) (mv_cons c_Rested_size (List.Mem.head _) er.l_Rested (by decide) (mv_cons c_Rule_size (List.Mem.tail _ (List.Mem.head _)) er.l_Capped (by decide) mv_nil)))) hr (@pa_cons _ _ _ _ _ (dv 3) (@pa_cons _ _ _ _ _ (dv 4) pa_nil (by rfl)) (by rfl))) (@pa_cons _ _ _ _ _ (@e_call _ _ _ _ _ _ _ _ _ _ _ c_share_by hr (by decide) (by rfl) (@pa_cons _ _ _ _ _ (@pe_fld _ _ _ _ _ (dv 0) (by rfl)) (@pa_cons _ _ _ _ _ (dv 1) pa_nil (by rfl)) (by rfl)) (by decide) (by rfl) (by rfl)) (@pa_cons _ _ _ _ _ (dv 2) pa_nil (by rfl)) (by rfl)) (by rfl)) (by decide) (by rfl) (by rfl)))),?_⟩
      have hz:=sz_mk (ns:=ns) er.y_Rule er.y_Early er.y_Rested er.y_Capped er.l_Rule er.l_Early er.l_Rested er.l_Capped er.na_Rule_step er.na_Early_step er.na_Rested_step er.na_Capped_step er.na_Early_early er.na_Early_many er.na_Rested_pause er.na_Rested_times
      obtain ⟨sp, hm, hs⟩ := hz so C kn
      have cn : Cls K C ∧ NoAttr K C "table" := by
        rcases kn with ⟨_, y⟩ | ⟨_, y⟩ | ⟨_, y⟩ | ⟨_, y⟩
        · exact ns_inj' er.y_Rule y ▸ ⟨er.l_Rule,er.na_Rule_table⟩
        · exact ns_inj' er.y_Early y ▸ ⟨er.l_Early,er.na_Early_table⟩
        · exact ns_inj' er.y_Rested y ▸ ⟨er.l_Rested,er.na_Rested_table⟩
        · exact ns_inj' er.y_Capped y ▸ ⟨er.l_Capped,er.na_Capped_table⟩
      refine ⟨a,C,dx,fs,sp,rfl,e,hm,f.sz,hs fs st fi one two T f b a dx H p r _ e ?_⟩
      refine ⟨a,C,dx,fs,_,rfl,e,cn.1,cn.2,f.tb,rows,x,⟨ht,tb,fx,fun _=>by decide⟩,fun q H1 s1 e1=>?_⟩
      refine ⟨due rows x.1 x.2,⟨e1,sh_due tb _ _,szR_bd b,h0,h2⟩,fun q2 H2 s2 e2=>k q2 H2 (s1.trans s2) ?_⟩
      rw [show bitQ so st one two p r h (due rows x.1 x.2) = unQ (szR so st one two p r) h (due rows x.1 x.2) from if_neg n3]
      exact e2
def sp_Capped_bit (K:PySem.W.Frag) (ns:List Int):Sp:=fun vs H Q _=>match vs with
  | [.ref a,.ref d,.int h,.int p,.int r]=>∃ (st fi one two:Int) (rows:List Rw) (x:Q2),(RlAt K H a 3 st fi one two rows∧Tb rows∧Nb st one two∧Fq 1300 H d x.1 x.2∧0 ≤ h∧h ≤ 2)∧∀ q H',Same H H'→H' q = some (.tup [.int (bitQ 3 st one two p r h (due rows x.1 x.2)).1,.int (bitQ 3 st one two p r h (due rows x.1 x.2)).2])→Q (.ref q) H'
  | _ => False
theorem sc_Capped_bit:FnScope ["self","difference","halves","played","rest"] ["self","difference","halves","played","rest"] (defScope s_Capped_bit):=⟨rfl,rfl,rfl,by decide +kernel,rfl,by decide +kernel,by decide +kernel⟩
theorem ok_Capped_bit (d:DfnM K [c_Capped] [] "bit" "Capped.bit" s_Capped_bit ["self","difference","halves","played","rest"]) (er:Errs K mg c_Capped c_Early c_NoTable c_Rested c_Rule)   (c_cut:Cal P w K mg base "cut" ["one","cap"] 2 (sp_cut K ns)) (c_uncut_bit:Cal P w K mg base "uncut_bit" ["size","share","halves"] 3 (sp_uncut_bit K ns)) (c_share_by:Cal P w K mg base "share_by" ["table","difference"] 6 (sp_share_by K ns)) (c_Rule_size:CalM P w K mg base [c_Rule,c_Capped] [] "size" ["self","played","rest"] 1 (sp_Rule_size K ns)) (c_Rested_size:CalM P w K mg base [c_Rested] [] "size" ["self","played","rest"] 1 (sp_Rested_size K ns)) (c_Early_size:CalM P w K mg base [c_Early] [] "size" ["self","played","rest"] 1 (sp_Early_size K ns)):CalM P w K mg base [c_Capped] [] "bit" ["self","difference","halves","played","rest"] 7 (sp_Capped_bit K ns):=by
  refine d.cal (k:=6) sc_Capped_bit (fun vs H Q E h=>?_) (fun f cdv A outer s H vs Q E hr h=>?_)
  · match vs, h with
    | [.ref a, .ref d, .int h, .int p, .int r], _ => rfl
  · match vs, h with
    | [.ref a, .ref d, .int h, .int p, .int r], hq0 =>
      obtain ⟨st,fi,one,two,rows,x,⟨⟨C,dx,fs,T,e,kn,f,ht⟩,tb,b,fx,h0,h2⟩,k⟩:=hq0
      refine ⟨_,(@pss_one _ _ _ (@ps_ret _ _ _ _ (@e_call _ _ _ _ _ _ _ _ _ _ _ c_cut hr (by decide) (by rfl) (@pa_cons _ _ _ _ _ (@e_call _ _ _ _ _ _ _ _ _ _ _ c_uncut_bit hr (by decide) (by rfl) (@pa_cons _ _ _ _ _ (e_methV (dv 0) (mv_cons c_Rule_size (List.Mem.head _) er.l_Rule (by decide) (mv_cons c_Early_size (List.Mem.head _) er.l_Early (by decide) (mv_cons c_Rested_size (List.Mem.head _) er.l_Rested (by decide) (mv_cons c_Rule_size (List.Mem.tail _ (List.Mem.head _)) er.l_Capped (by decide) mv_nil)))) hr (@pa_cons _ _ _ _ _ (dv 3) (@pa_cons _ _ _ _ _ (dv 4) pa_nil (by rfl)) (by rfl))) (@pa_cons _ _ _ _ _ (@e_call _ _ _ _ _ _ _ _ _ _ _ c_share_by hr (by decide) (by rfl) (@pa_cons _ _ _ _ _ (@pe_fld _ _ _ _ _ (dv 0) (by rfl)) (@pa_cons _ _ _ _ _ (dv 1) pa_nil (by rfl)) (by rfl)) (by decide) (by rfl) (by rfl)) (@pa_cons _ _ _ _ _ (dv 2) pa_nil (by rfl)) (by rfl)) (by rfl)) (by decide) (by rfl) (by rfl)) (@pa_cons _ _ _ _ _ (@pe_fld _ _ _ _ _ (dv 0) (by rfl)) pa_nil (by rfl)) (by rfl)) (by decide) (by rfl) (by rfl)))),?_⟩
      have hz:=sz_mk (ns:=ns) er.y_Rule er.y_Early er.y_Rested er.y_Capped er.l_Rule er.l_Early er.l_Rested er.l_Capped er.na_Rule_step er.na_Early_step er.na_Rested_step er.na_Capped_step er.na_Early_early er.na_Early_many er.na_Rested_pause er.na_Rested_times
      obtain ⟨sp, hm, hs⟩ := hz 3 C kn
      have y:PySem.W.nsIn K mainGlobals "Capped" = some (some (.ref C)):=by
        rcases kn with ⟨z, _⟩ | ⟨z, _⟩ | ⟨z, _⟩ | ⟨_, y⟩
        · exact absurd z (by decide)
        · exact absurd z (by decide)
        · exact absurd z (by decide)
        · exact y
      have z := ns_inj' y er.y_Capped
      subst z
      refine ⟨a,_,dx,fs,sp,rfl,e,hm,f.sz,hs fs st fi one two T f b a dx H p r _ e ?_⟩
      refine ⟨a,_,dx,fs,_,rfl,e,er.l_Capped,er.na_Capped_table,f.tb,rows,x,⟨ht,tb,fx,fun _=>by decide⟩,fun q H1 s1 e1=>?_⟩
      have sd := sh_due tb x.1 x.2
      obtain ⟨_,_,_,_,b5,b6⟩:=sd.bT (szR_bd (so:=3) (p:=p) (r:=r) b) h0 h2
      refine ⟨due rows x.1 x.2,⟨e1,sd,szR_bd b,h0,h2⟩,fun q2 H2 s2 e2=>?_⟩
      have s12 := s1.trans s2
      refine ⟨a,_,dx,fs,_,rfl,s12 _ _ e,er.l_Capped,er.na_Capped_cap,f.x3 rfl,?_⟩
      refine ⟨unQ (szR 3 st one two p r) h (due rows x.1 x.2),⟨e2,(bd_frT b5).mono (by decide),(bd_frB b6).mono (by decide),b.bon.mono (by decide)⟩,fun q3 H3 s3 e3=>k q3 H3 (s12.trans s3) ?_⟩
      rw [show bitQ 3 st one two p r h (due rows x.1 x.2) = cutQ (unQ (szR 3 st one two p r) h (due rows x.1 x.2)) one from if_pos rfl]
      exact e3
theorem least_ok {p q l:Int} (h0:0 ≤ p) (h1:p ≤ q) (h2:0 < q) (h3:1 ≤ l):0 ≤ 0 - (0 - p * l) / q∧0 - (0 - p * l) / q ≤ l:=by
  have a := Int.mul_nonneg h0 (show 0 ≤ l by omega)
  have b:p * l ≤ q * l:=Int.mul_le_mul_of_nonneg_right h1 (by omega)
  have c:(0 - p * l) / q < 1:=Int.ediv_lt_of_lt_mul h2 (by omega)
  have d:-l ≤ (0 - p * l) / q:=Int.le_ediv_of_mul_le h2 (by
    have:-l * q = -(q * l):=by rw [Int.neg_mul,Int.mul_comm]
    omega)
  omega
theorem low_ok {u l:Int} (h0:0 ≤ u) (h1:u ≤ l) (h2:1 ≤ l) (h3:l ≤ 9999):0 ≤ lowT u l∧lowT u l ≤ lowB u l∧0 < lowB u l∧lowB u l ≤ 9999∧Int.gcd (lowT u l) (lowB u l) = 1:=by
  have g := gcd_pos' u (show 0 < l by omega)
  have t := lowT_mul u l
  have b := lowB_mul u l
  have p := lowB_pos u (show 0 < l by omega)
  refine ⟨Int.le_of_mul_le_mul_right (a:=(Int.gcd u l:Int)) (by rw [t,Int.zero_mul]; exact h0) g,Int.le_of_mul_le_mul_right (a:=(Int.gcd u l:Int)) (by rw [t,b]; exact h1) g,p,?_,low_gcd u (by omega)⟩
  have:lowB u l * 1 ≤ lowB u l * (Int.gcd u l:Int):=Int.mul_le_mul_of_nonneg_left (by omega) (Int.le_of_lt p)
  omega
theorem chn_snoc:∀ {rows:List (Int × Int × Int)} {a b:Int × Int × Int},rows.getLast? = some a→chn (rows ++ [b]) = (chn rows && goR a b)
  | [], _, _, h => by simp at h
  | [x], a, b, h => by
    have : x = a := by simpa using h
    subst this
    show (goR x b && chn [b]) = (true && goR x b)
    rw [Bool.true_and]
    exact Bool.and_true _
  | x :: y :: l, a, b, h => by
    have h' : (y :: l).getLast? = some a := by rw [← h]; rfl
    have := chn_snoc (b := b) h'
    show (goR x y && chn ((y :: l) ++ [b])) = ((goR x y && chn (y :: l)) && goR a b)
    rw [this, Bool.and_assoc]
structure TbI (i:Nat) (rows:List (Int × Int × Int)):Prop where
  hd : rows[0]? = some (0, 1, 2)
  ok : ∀ r ∈ rows, rowOk (some r) = true ∧ r.2.2 ≤ 2 * r.2.1
  lim : ∀ r ∈ rows, r.1 ≤ 100000 * (i : Int)
  len : rows.length = i + 1
  ch : chn rows = true
theorem TbI.one : TbI 0 [(0, 1, 2)] := ⟨rfl, fun r h => by
  rw [List.mem_singleton] at h
  subst h
  decide, fun r h => by
  rw [List.mem_singleton] at h
  subst h
  decide, rfl, rfl⟩
theorem TbI.snoc {i:Nat} {rows:List (Int × Int × Int)} {a r:Int × Int × Int} (h:TbI i rows) (la:rows.getLast? = some a) (o:rowOk (some r) = true) (l:r.1 ≤ 100000 * ((i + 1:Nat):Int)) (g:goR a r = true):TbI (i + 1) (rows ++ [r]):=by
  have pa := h.ok a (List.mem_of_getLast? la)
  have g':a.1 < r.1∧¬ r.2.1 * a.2.2 < a.2.1 * r.2.2:=by
    have:(decide (a.1 < r.1) && decide (¬ r.2.1 * a.2.2 < a.2.1 * r.2.2)) = true:=g
    rw [Bool.and_eq_true] at this
    exact ⟨of_decide_eq_true this.1,of_decide_eq_true this.2⟩
  have ba := row_bd pa.1
  have br := row_bd o
  refine ⟨?_, fun x hx => ?_, fun x hx => ?_, ?_, ?_⟩
  · rw [List.getElem?_append_left (by rw [h.len]; omega)]
    exact h.hd
  · rcases List.mem_append.mp hx with hx | hx
    · exact h.ok x hx
    · rw [List.mem_singleton] at hx
      subst hx
      refine ⟨o, ?_⟩
      have g2 := Int.not_lt.mp g'.2
      have h1:a.2.2 * x.2.2 ≤ 2 * a.2.1 * x.2.2:=Int.mul_le_mul_of_nonneg_right pa.2 (by omega)
      have h2 : x.2.2 * a.2.2 ≤ 2 * x.2.1 * a.2.2 := by
        have e1:x.2.2 * a.2.2 = a.2.2 * x.2.2:=Int.mul_comm ..
        have e2:2 * a.2.1 * x.2.2 = 2 * (a.2.1 * x.2.2):=Int.mul_assoc ..
        have e3:2 * x.2.1 * a.2.2 = 2 * (x.2.1 * a.2.2):=Int.mul_assoc ..
        omega
      exact Int.le_of_mul_le_mul_right h2 (by omega)
  · rcases List.mem_append.mp hx with hx | hx
    · have := h.lim x hx
      omega
    · rw [List.mem_singleton] at hx
      subst hx
      exact l
  · rw [List.length_append, h.len]
    rfl
  · rw [chn_snoc la, h.ch, g]
    rfl
theorem least_ge {p q l:Int} (h2:0 < q):p * l ≤ (0 - (0 - p * l) / q) * q:=by
  have := Int.ediv_mul_le (0 - p * l) (show q ≠ 0 by omega)
  have e:(0 - (0 - p * l) / q) * q = -((0 - p * l) / q * q):=by grind
  omega
theorem cr_low {u l p q:Int} (h:p * l ≤ u * q) (hl:1 ≤ l):¬ lowT u l * q < p * lowB u l:=fun c=>by
  have g := gcd_pos' u (show 0 < l by omega)
  have t := lowT_mul u l
  have b := lowB_mul u l
  have c1 := Int.mul_lt_mul_of_pos_right c g
  have e1:lowT u l * q * (Int.gcd u l:Int) = u * q:=by rw [← t]; grind
  have e2 : p * lowB u l * (Int.gcd u l : Int) = p * l := by
    have:p * lowB u l * (Int.gcd u l:Int) = p * (lowB u l * (Int.gcd u l:Int)):=Int.mul_assoc ..
    rw [this, b]
  omega
theorem rol_app {H:Hp} {D T q:Addr} {vs:List V} {rows:List (Int × Int × Int)} {r:Int × Int × Int} (h:H D = some (.lst vs)) (a:All2 (RoAt H) vs rows) (e:H T = some (.tup [.int r.1,.ref q])) (e':H q = some (.tup [.int r.2.1,.int r.2.2])):TbL (upd H D (.lst (vs ++ [.ref T]))) D (rows ++ [r]):=by
  have kt:Kt H (upd H D (.lst (vs ++ [.ref T]))):=kt_upd h
  exact ⟨_,upd_same,(a.imp fun v g x=>ro_up v g _ _ kt x).snoc ⟨T,q,rfl,kt _ _ e,kt _ _ e'⟩⟩
theorem TbI.good {i:Nat} {rows:List (Int × Int × Int)} (h:TbI i rows) (hi:i < 10):GoodT rows:=⟨⟨by rw [h.len]; omega,by rw [h.len]; omega⟩,fun r hr=>(h.ok r hr).1,h.hd,h.ch⟩
theorem good_tb {rows:List (Int × Int × Int)} (h:GoodT rows):Tb rows:=by
  obtain ⟨⟨l1, l2⟩, ok, hd, _⟩ := h
  refine ⟨?_, fun r hr => ?_, l2⟩
  · cases rows with
    | nil => cases hd
    | cons r rs =>
      cases hd
      exact ⟨_, _, rfl, rfl⟩
  · obtain ⟨⟨a1,a2⟩,b1,b2,b3,b4,b5⟩:=row_bd (ok r hr)
    exact ⟨a1, by omega, b3, b4, by omega, b2, b5⟩
theorem at2 {x y:Int} (c:Int) {m:Int} (hx:0 < x∧x ≤ m) (hy:0 < y∧y ≤ m):∃ v,atI [V.int x,V.int y] (c % 2) = some (.int v)∧0 < v∧v ≤ m:=by
  have : c % 2 = 0 ∨ c % 2 = 1 := by omega
  rcases this with e | e <;> rw [e]
  · exact ⟨x, rfl, hx.1, hx.2⟩
  · exact ⟨y, rfl, hy.1, hy.2⟩
theorem at4 {x y z w:Int} (c:Int) {m:Int} (hx:0 ≤ x∧x ≤ m) (hy:0 ≤ y∧y ≤ m) (hz:0 ≤ z∧z ≤ m) (hw:0 ≤ w∧w ≤ m):∃ v,atI [V.int x,V.int y,V.int z,V.int w] (c % 4) = some (.int v)∧0 ≤ v∧v ≤ m:=by
  have:c % 4 = 0 ∨ c % 4 = 1 ∨ c % 4 = 2 ∨ c % 4 = 3:=by omega
  rcases this with e | e | e | e <;> rw [e]
  · exact ⟨x, rfl, hx.1, hx.2⟩
  · exact ⟨y, rfl, hy.1, hy.2⟩
  · exact ⟨z, rfl, hz.1, hz.2⟩
  · exact ⟨w, rfl, hw.1, hw.2⟩
def sp_l_number (K:PySem.W.Frag) (ns:List Int):Sp:=fun vs H Q _=>match vs with
  | [.int c]=>∀ n H',0 ≤ n→n ≤ 1000000→Same H H'→Q (.int n) H'
  | _ => False
theorem sc_l_number:FnScope ["_law_cell_here"] ["_law_cell_here"] (defScope s_l_number):=⟨rfl,rfl,rfl,by decide +kernel,rfl,by decide +kernel,by decide +kernel⟩
theorem ok_l_number (d:Dfn K mg "_law_number" s_l_number ["_law_cell_here"]) (er:Errs K mg c_Capped c_Early c_NoTable c_Rested c_Rule)   :Cal P w K mg base "_law_number" ["_law_cell_here"] 1 (sp_l_number K ns):=by
  refine d.cal (k:=0) sc_l_number (fun vs H Q E h=>?_) (fun f cdv A outer s H vs Q E hr h=>?_)
  · match vs, h with
    | [.int c], _ => rfl
  · match vs, h with
    | [.int c], hq0 =>
      have q := hq0
      refine ⟨_,(@pss_one _ _ _ (@ps_ret _ _ _ _ (@pe_ix _ _ _ _ _ _ _ i_lst (@e_lst _ _ _ _ (@pa_cons _ _ _ _ _ pe_int (@pa_cons _ _ _ _ _ pe_int (@pa_cons _ _ _ _ _ (@pe_op _ _ _ _ _ _ _ _ o_mod (@pe_op _ _ _ _ _ _ _ _ o_div (dv 0) pe_int) pe_int) (@pa_cons _ _ _ _ _ (@pe_op _ _ _ _ _ _ _ _ o_mod (@pe_op _ _ _ _ _ _ _ _ o_div (dv 0) pe_int) (@pe_op _ _ _ _ _ _ _ _ o_add (@pe_op _ _ _ _ _ _ _ _ o_pow pe_int pe_int) pe_int)) pa_nil (by rfl)) (by rfl)) (by rfl)) (by rfl))) (@pe_op _ _ _ _ _ _ _ _ o_mod (dv 0) pe_int) (fun _ _=>rfl)))),?_⟩
      have n6:(0:Int) < 10 ^ Int.toNat 6 + 1:=by decide
      have a0:=Int.emod_nonneg (c / 4) (show (61:Int) ≠ 0 by decide)
      have a1:=Int.emod_lt_of_pos (c / 4) (show (0:Int) < 61 by decide)
      have b0:=Int.emod_nonneg (c / 4) (show (10:Int) ^ Int.toNat 6 + 1 ≠ 0 by decide)
      have b1:c / 4 % (10 ^ Int.toNat 6 + 1) < 1000001:=Int.emod_lt_of_pos (c / 4) n6
      refine ⟨⟨by decide,bd_lit rfl⟩,(by show (0:Int) < 61; decide),⟨by decide,bd_lit rfl⟩,⟨by decide,by decide,by decide⟩,n6,fun P H1 s1 e1=>⟨(by show (0:Int) < 4; decide),?_⟩⟩
      obtain ⟨v,hv,v0,v1⟩:=at4 (x:=0) (y:=1) (z:=c / 4 % 61) (w:=c / 4 % (10 ^ Int.toNat 6 + 1)) c (m:=1000000) ⟨by decide,by decide⟩ ⟨by decide,by decide⟩ ⟨a0,by omega⟩ ⟨b0,by omega⟩
      exact ⟨_, .int v, SqL.of e1, hv, q v H1 v0 v1 s1⟩
def sp_l_rows (K:PySem.W.Frag) (ns:List Int):Sp:=fun vs H Q _=>match vs with
  | [.ref a]=>(SqL K H a (ns.map V.int)∧Bits ns)∧∀ D rows H',Same H H'→H D = none→TbL H' D rows→GoodT rows→Q (.ref D) H'
  | _ => False
theorem sc_l_rows:FnScope ["_law_script","_law_rows_here","_law_k","_law_start","_law_part","_law_lower","_law_least","_law_upper"] ["_law_script"] (defScope s_l_rows):=⟨rfl,rfl,rfl,by decide +kernel,rfl,by decide +kernel,by decide +kernel⟩
theorem ok_l_rows (d:Dfn K mg "_law_rows" s_l_rows ["_law_script"]) (er:Errs K mg c_Capped c_Early c_NoTable c_Rested c_Rule) (n_range:mg "range" = none)  (c_l_cell:Cal P w K mg base "_law_cell" ["_law_script","_law_k"] 1 (sp_l_cell K ns)) (c_l_low:Cal P w K mg base "_law_low" ["_law_top","_law_bottom"] 2 (sp_l_low K ns)):Cal P w K mg base "_law_rows" ["_law_script"] 3 (sp_l_rows K ns):=by
  refine d.cal (k:=2) sc_l_rows (fun vs H Q E h=>?_) (fun f cdv A outer s H vs Q E hr h=>?_)
  · match vs, h with
    | [.ref a], _ => rfl
  · match vs, h with
    | [.ref a], hq0 =>
      obtain ⟨⟨hS, hb⟩, q⟩ := hq0
      refine ⟨_,(@pss_cons _ _ _ _ _ (@ps_set _ _ (1) _ _ _ _ sc_l_rows.nd rfl (by first | exact Or.inl rfl | exact Or.inr rfl) (@pe_lst _ _ _ _ (@pa_cons _ _ _ _ _ (@e_tup _ _ _ _ _ (@pa_cons _ _ _ _ _ pe_int (@pa_cons _ _ _ _ _ (@e_tup _ _ _ _ _ (@pa_cons _ _ _ _ _ pe_int (@pa_cons _ _ _ _ _ pe_int pa_nil (by rfl)) (by rfl))) pa_nil (by rfl)) (by rfl))) pa_nil (by rfl))) (by rfl) (by first | exact .inl rfl | exact .inr rfl | assumption)) (@pss_cons _ _ _ _ _ (@ps_for _ _ _ _ _ _ _ _ PassesOwn.never rfl (@pi_range1 _ _ _ _ _ _ (by rfl) n_range (@pa_cons _ _ _ _ _ (@pe_op _ _ _ _ _ _ _ _ o_mod (@pe_op _ _ _ _ _ _ _ _ o_div (@e_call _ _ _ _ _ _ _ _ _ _ _ c_l_cell hr (by decide) (by rfl) (@pa_cons _ _ _ _ _ (dv 0) (@pa_cons _ _ _ _ _ pe_int pa_nil (by rfl)) (by rfl)) (by decide) (by rfl) (by rfl)) pe_int) pe_int) pa_nil (by rfl)) (by rfl)) (@pg_name _ _ (2) _ sc_l_rows.nd rfl (by first | exact Or.inl rfl | exact Or.inr rfl) (by first | exact .inl rfl | exact .inr rfl | assumption)) (@pss_cons _ _ _ _ _ (@ps_asg _ _ _ _ _ _ (@pe_ix _ _ _ _ _ _ _ i_lst (dv 1) (@pe_un _ _ _ _ _ _ u_neg pe_int) (fun _ _=>rfl)) (@pg_tup _ _ _ _ _ _ rfl (@pgs_cons _ _ _ _ _ (@pg_name _ _ (3) _ sc_l_rows.nd rfl (by first | exact Or.inl rfl | exact Or.inr rfl) (by first | exact .inl rfl | exact .inr rfl | assumption)) (@pgs_cons _ _ _ _ _ (@pg_name _ _ (4) _ sc_l_rows.nd rfl (by first | exact Or.inl rfl | exact Or.inr rfl) (by first | exact .inl rfl | exact .inr rfl | assumption)) pgs_nil (by rfl)) (by rfl)) (by rfl) (by rfl)) (by rfl) (by rfl) (by rfl)) (@ss_cutE _ _ _ _ _ (@ps_set _ _ (5) _ _ _ _ sc_l_rows.nd rfl (by first | exact Or.inl rfl | exact Or.inr rfl) (@pe_op _ _ _ _ _ _ _ _ o_add pe_int (@pe_op _ _ _ _ _ _ _ _ o_mod (@e_call _ _ _ _ _ _ _ _ _ _ _ c_l_cell hr (by decide) (by rfl) (@pa_cons _ _ _ _ _ (dv 0) (@pa_cons _ _ _ _ _ (@pe_op _ _ _ _ _ _ _ _ o_add pe_int (@pe_op _ _ _ _ _ _ _ _ o_mul pe_int (dv 2))) pa_nil (by rfl)) (by rfl)) (by decide) (by rfl) (by rfl)) pe_int)) (by rfl) (by first | exact .inl rfl | exact .inr rfl | assumption)) (@ss_cutE _ _ _ _ _ (@ps_set _ _ (6) _ _ _ _ sc_l_rows.nd rfl (by first | exact Or.inl rfl | exact Or.inr rfl) (@pe_op _ _ _ _ _ _ _ _ o_sub pe_int (@pe_op _ _ _ _ _ _ _ _ o_div (@pe_op _ _ _ _ _ _ _ _ o_sub pe_int (@pe_op _ _ _ _ _ _ _ _ o_mul (@pe_ix _ _ _ _ _ _ _ i_tup (dv 4) pe_int (fun _ _=>rfl)) (dv 5))) (@pe_ix _ _ _ _ _ _ _ i_tup (dv 4) pe_int (fun _ _=>rfl)))) (by rfl) (by first | exact .inl rfl | exact .inr rfl | assumption)) (@ss_cutE _ _ _ _ _ (@ps_set _ _ (7) _ _ _ _ sc_l_rows.nd rfl (by first | exact Or.inl rfl | exact Or.inr rfl) (@pe_op _ _ _ _ _ _ _ _ o_add (dv 6) (@pe_op _ _ _ _ _ _ _ _ o_mod (@e_call _ _ _ _ _ _ _ _ _ _ _ c_l_cell hr (by decide) (by rfl) (@pa_cons _ _ _ _ _ (dv 0) (@pa_cons _ _ _ _ _ (@pe_op _ _ _ _ _ _ _ _ o_add pe_int (@pe_op _ _ _ _ _ _ _ _ o_mul pe_int (dv 2))) pa_nil (by rfl)) (by rfl)) (by decide) (by rfl) (by rfl)) (@pe_op _ _ _ _ _ _ _ _ o_sub (@pe_op _ _ _ _ _ _ _ _ o_add pe_int (dv 5)) (dv 6)))) (by rfl) (by first | exact .inl rfl | exact .inr rfl | assumption)) (@ss_cutE _ _ _ _ _ (@ps_set _ _ (3) _ _ _ _ sc_l_rows.nd rfl (by first | exact Or.inl rfl | exact Or.inr rfl) (@pe_op _ _ _ _ _ _ _ _ o_add (@pe_op _ _ _ _ _ _ _ _ o_add (dv 3) pe_int) (@pe_op _ _ _ _ _ _ _ _ o_mod (@pe_op _ _ _ _ _ _ _ _ o_div (@e_call _ _ _ _ _ _ _ _ _ _ _ c_l_cell hr (by decide) (by rfl) (@pa_cons _ _ _ _ _ (dv 0) (@pa_cons _ _ _ _ _ (@pe_op _ _ _ _ _ _ _ _ o_add pe_int (@pe_op _ _ _ _ _ _ _ _ o_mul pe_int (dv 2))) pa_nil (by rfl)) (by rfl)) (by decide) (by rfl) (by rfl)) pe_int) (@pe_ix _ _ _ _ _ _ _ i_lst (@e_lst _ _ _ _ (@pa_cons _ _ _ _ _ pe_int (@pa_cons _ _ _ _ _ pe_int pa_nil (by rfl)) (by rfl))) (@pe_op _ _ _ _ _ _ _ _ o_mod (@pe_op _ _ _ _ _ _ _ _ o_div (@e_call _ _ _ _ _ _ _ _ _ _ _ c_l_cell hr (by decide) (by rfl) (@pa_cons _ _ _ _ _ (dv 0) (@pa_cons _ _ _ _ _ pe_int pa_nil (by rfl)) (by rfl)) (by decide) (by rfl) (by rfl)) pe_int) pe_int) (fun _ _=>rfl)))) (by rfl) (by first | exact .inl rfl | exact .inr rfl | assumption)) (@pss_one _ _ _ (@ps_expr _ _ _ _ (@pe_bm _ _ _ _ _ _ _ _ _ _ _ _ PySem.F.plainAttrs_list PySem.F.slot_list_append PySem.F.type_list_append mt_append (dv 1) (@pa_cons _ _ _ _ _ (@e_tup _ _ _ _ _ (@pa_cons _ _ _ _ _ (dv 3) (@pa_cons _ _ _ _ _ (@e_call _ _ _ _ _ _ _ _ _ _ _ c_l_low hr (by decide) (by rfl) (@pa_cons _ _ _ _ _ (dv 7) (@pa_cons _ _ _ _ _ (dv 5) pa_nil (by rfl)) (by rfl)) (by decide) (by rfl) (by rfl)) pa_nil (by rfl)) (by rfl))) pa_nil (by rfl)) (by rfl) (by rfl) (by rfl) (by rfl) (by rfl)) (by rfl)))))))) (by intro _; rfl)) (@pss_one _ _ _ (@ps_ret _ _ _ _ (dv 1))))),?_⟩
      refine fun T0 H0 s0 e0 T1 H1 s1 e1=>⟨(by show 1 ≤ sizeLine; decide),fun D hD=>?_⟩
      have s01 := s0.trans s1
      have sU:Same H (upd H1 D (.lst [.ref T1])):=s01.trans (same_upd hD)
      have hD0 : H D = none := none_back s01 hD
      have t0:TbL (upd H1 D (.lst [.ref T1])) D [(0,1,2)]:=⟨_,upd_same,.cons ⟨T1,T0,rfl,same_upd hD _ _ e1,same_upd hD _ _ (s1 _ _ e0)⟩ .nil⟩
      generalize upd H1 D (.lst [.ref T1]) = H2 at sU t0
      clear e0 e1 s0 s1 s01 hD
      refine ⟨sU.seq hS,⟨by decide,by decide,hb⟩,fun c _=>⟨⟨by decide,bd_lit rfl⟩,(by show (0:Int) < 6; decide),?_⟩⟩
      have c0:=Int.emod_nonneg (c / 4) (show (6:Int) ≠ 0 by decide)
      have c1:=Int.emod_lt_of_pos (c / 4) (show (0:Int) < 6 by decide)
      refine ⟨_,rfl,by omega,by omega,for_range (lo:=0) (n:=(c / 4 % 6).toNat) (fun i σ H'=>∃ (rows:List (Int × Int × Int)) (o2 o3 o4 o5 o6 o7:Option V),σ = [some (.ref a),some (.ref D),o2,o3,o4,o5,o6,o7]∧Same H H'∧TbL H' D rows∧TbI i rows) ⟨_,none,none,none,none,none,none,rfl,sU,t0,TbI.one⟩ ?_ ?_⟩
      · clear sU t0
        rintro i σ H' hi ⟨rows,o2,o3,o4,o5,o6,o7,rfl,s1,⟨vs,e1,a1⟩,ti⟩
        obtain ⟨v, hv⟩ : ∃ v, vs.getLast? = some v := by
          cases e : vs.getLast? with
          | none =>
            rw [List.getLast?_eq_none_iff] at e
            have := a1.len
            rw [e, ti.len] at this
            simp at this
          | some v => exact ⟨v, rfl⟩
        obtain ⟨m',hm',p',q',rfl,g1,g2⟩:=a2_last a1 hv
        have hmem : m' ∈ rows := List.mem_of_getLast? hm'
        obtain ⟨⟨r5,r6⟩,r3,r4,r1,r2,_⟩:=row_bd (ti.ok m' hmem).1
        have lim := ti.lim m' hmem
        refine ⟨_,.ref p',SqL.of e1,atI_last hv,p',_,rfl,SqT.of g1,rfl,_,_,rfl,_,_,rfl,rfl,?_⟩
        refine ⟨fun σ H2=>∃ lw:Int,σ = [some (.ref a),some (.ref D),some (.int (0 + (i:Int))),some (.int m'.1),some (.ref q'),some (.int lw),o6,o7]∧H2 = H'∧1 ≤ lw∧lw ≤ 9999,⟨.inr (.inl ⟨by decide,by decide⟩),s1.seq hS,⟨by omega,by omega,hb⟩,fun c1 _=>⟨(by show (0:Int) < 99; decide),?_⟩⟩,?_⟩
        · have z0:=Int.emod_nonneg c1 (show (99:Int) ≠ 0 by decide)
          have z1:=Int.emod_lt_of_pos c1 (show (0:Int) < 99 by decide)
          exact ⟨_, rfl, rfl, by omega, by omega⟩
        rintro σ H2 ⟨lw, rfl, rfl, lw1, lw9⟩
        have s2 := Same.refl H2
        have g2 := s2 _ _ g2
        have bp:Bd 100 m'.2.1:=bd_of (b:=9999) (by omega) (by omega) (bd_lit rfl)
        have bq:Bd 100 m'.2.2:=bd_of (b:=9999) (by omega) (by omega) (bd_lit rfl)
        have bl:Bd 100 lw:=bd_of (b:=9999) (by omega) (by omega) (bd_lit rfl)
        obtain ⟨l0,l1⟩:=least_ok (p:=m'.2.1) (q:=m'.2.2) r1 r2 (by omega) lw1
        have l2:=least_ge (p:=m'.2.1) (q:=m'.2.2) (l:=lw) (by omega)
        refine ⟨fun σ H3=>∃ ls:Int,σ = [some (.ref a),some (.ref D),some (.int (0 + (i:Int))),some (.int m'.1),some (.ref q'),some (.int lw),some (.int ls),o7]∧H3 = H2∧0 ≤ ls∧ls ≤ lw∧m'.2.1 * lw ≤ ls * m'.2.2,⟨_,g2,cok bp bl (by decide) (by decide),_,g2,⟨by omega,bq.mono (by decide)⟩,_,rfl,rfl,l0,l1,l2⟩,?_⟩
        clear l0 l1 l2
        rintro σ H3 ⟨ls, rfl, rfl, l0, l1, l2⟩
        have s12 := s1.trans s2
        refine ⟨fun σ H4=>∃ up:Int,σ = [some (.ref a),some (.ref D),some (.int (0 + (i:Int))),some (.int m'.1),some (.ref q'),some (.int lw),some (.int ls),some (.int up)]∧H4 = H3∧ls ≤ up∧up ≤ lw,⟨.inr (.inl ⟨by decide,by decide⟩),s12.seq hS,⟨by omega,by omega,hb⟩,fun c3 _=>?_⟩,?_⟩
        · have d0 : 0 < 1 + lw - ls := by omega
          have z0:=Int.emod_nonneg c3 (show 1 + lw - ls ≠ 0 by omega)
          have z1 := Int.emod_lt_of_pos c3 d0
          exact ⟨d0, _, rfl, rfl, by omega, by omega⟩
        rintro σ H4 ⟨up, rfl, rfl, u0, u1⟩
        have up2:m'.2.1 * lw ≤ up * m'.2.2:=Int.le_trans l2 (Int.mul_le_mul_of_nonneg_right u0 (by omega))
        have u0 : 0 ≤ up := by omega
        refine ⟨fun σ H5=>∃ st:Int,σ = [some (.ref a),some (.ref D),some (.int (0 + (i:Int))),some (.int st),some (.ref q'),some (.int lw),some (.int ls),some (.int up)]∧Same H4 H5∧m'.1 < st∧st ≤ 100000 * ((i + 1:Nat):Int),⟨.inr (.inl ⟨by decide,by decide⟩),s12.seq hS,⟨by omega,by omega,hb⟩,fun c4 _=>⟨⟨by decide,bd_lit rfl⟩,fun P2 H5 s5 f5=>⟨(s12.trans s5).seq hS,⟨by decide,by decide,hb⟩,fun c5 _=>⟨⟨by decide,bd_lit rfl⟩,(by show (0:Int) < 2; decide),?_⟩⟩⟩⟩,?_⟩
        · obtain ⟨u,hu,z0,z1⟩:=at2 (x:=3) (y:=300) (c5 / 24) (m:=300) ⟨by decide,by decide⟩ ⟨by decide,by decide⟩
          have y0:=Int.emod_nonneg (c4 / 100) (show u ≠ 0 by omega)
          have y1 := Int.emod_lt_of_pos (c4 / 100) z0
          exact ⟨_,.int u,SqL.of f5,hu,z0,_,rfl,s5,by omega,by omega⟩
        rintro σ H5 ⟨st, rfl, s5, st0, st1⟩
        have s25 := s2.trans s5
        have e1 := s25 _ _ e1
        have a1:All2 (RoAt H5) vs rows:=a1.imp fun v g r=>ro_up v g _ _ (kt_of s25) r
        obtain ⟨k1, k2, k3, k4, k5⟩ := low_ok u0 u1 lw1 lw9
        have hg := gcd_pos' up (show 0 < lw by omega)
        have hB:Bd 4000 (Int.gcd up lw:Int):=bd_gcd up (by omega) (bd_of (b:=9999) (by omega) (by omega) (bd_lit rfl))
        have rok:rowOk (some (st,lowT up lw,lowB up lw)) = true:=by
          show (decide (0 ≤ st∧st ≤ 1000000) && decide _) = true
          rw [decide_eq_true (show 0 ≤ st∧st ≤ 1000000 by omega),decide_eq_true (show 1 ≤ lowB up lw∧lowB up lw ≤ 9999∧0 ≤ lowT up lw∧lowT up lw ≤ lowB up lw∧Int.gcd (lowT up lw) (lowB up lw) = 1 from ⟨by omega,by omega,k1,k2,k5⟩)]
          rfl
        have gok:goR m' (st,lowT up lw,lowB up lw) = true:=by
          show (decide (m'.1 < st) && decide (¬ lowT up lw * m'.2.2 < m'.2.1 * lowB up lw)) = true
          rw [decide_eq_true st0,decide_eq_true (cr_low up2 lw1)]
          rfl
        refine ⟨.inl ⟨rfl,_,SqL.of e1⟩,⟨by omega,bl.mono (by decide)⟩,fun Lq H6 s6 e6 T H7 s7 e7=>⟨D,vs,_,rfl,rfl,(s6.trans s7) _ _ e1,?_,rows ++ [(st,lowT up lw,lowB up lw)],_,_,_,_,_,_,rfl,?_,?_,?_⟩⟩
        · rw [a1.len, ti.len]
          exact Nat.lt_of_lt_of_le (show i + 1 < 100 by omega) (by decide)
        · exact same_app' (s1.trans (s25.trans (s6.trans s7))) hD0
        · exact rol_app (r:=(st,lowT up lw,lowB up lw)) ((s6.trans s7) _ _ e1) (a1.imp fun v g r=>ro_up v g _ _ (kt_of (s6.trans s7)) r) e7 (s7 _ _ e6)
        · exact ti.snoc hm' rok st1 gok
      rintro σ H' ⟨rows,o2,o3,o4,o5,o6,o7,rfl,s1,t1,ti⟩
      exact q D rows H' s1 hD0 t1 (ti.good (by omega))
def RlN (K:PySem.W.Frag) (H0 H:Hp) (v:V) (so st fi one two:Int) (rows:List Rw):Prop:=∃ a C dx fs T,v = .ref a∧H a = some (.ins C dx fs)∧Kn K so C∧Fds fs so st fi one two T∧TbL H T rows∧H0 T = none
theorem mk_same {H:Hp} {x dx C:Addr} (hx:H x = none) (hd:H dx = none) (ne:dx ≠ x):Same H (upd (upd H dx (.own x)) x (.ins C dx [])):=(same_upd hd).trans (same_upd (by rw [upd_ne (Ne.symm ne)]; exact hx))
theorem mk_back {H H1 H':Hp} {x:Addr} (hx:H x = none) (s:Same H H1) (a:Sx x H1 H'):Same H H':=fun b o e=>a b o (fun z=>by rw [z,hx] at e; cases e) (s b o e)
def sp_l_rule (K:PySem.W.Frag) (ns:List Int):Sp:=fun vs H Q _=>match vs with
  | [.ref d,.ref L]=>∃ (so st fi one two:Int) (rows:List Rw) (vs:List V),(H d = some (.tup [.int so,.int st,.int fi,.int one,.int two])∧0 ≤ so∧so ≤ 3∧H L = some (.lst vs)∧All2 (RoAt H) vs rows∧GoodT rows)∧∀ v H',Same H H'→RlN K H H' v so st fi one two rows→Q v H'
  | _ => False
theorem sc_l_rule:FnScope ["_law_drawn","_law_rows_here","_law_sort","_law_step","_law_first","_law_one","_law_two"] ["_law_drawn","_law_rows_here"] (defScope s_l_rule):=⟨rfl,rfl,rfl,by decide +kernel,rfl,by decide +kernel,by decide +kernel⟩
theorem ok_l_rule (d:Dfn K mg "_law_rule" s_l_rule ["_law_drawn","_law_rows_here"]) (er:Errs K mg c_Capped c_Early c_NoTable c_Rested c_Rule)   (c_Capped___init__:CalM P w K mg base [c_Capped] [] "__init__" ["self","step","first","table","cap"] 7 (sp_Capped___init__ K ns)) (c_Rested___init__:CalM P w K mg base [c_Rested] [] "__init__" ["self","step","first","table","pause","times"] 7 (sp_Rested___init__ K ns)) (c_Early___init__:CalM P w K mg base [c_Early] [] "__init__" ["self","step","first","table","early","many"] 7 (sp_Early___init__ K ns)) (c_Rule___init__:CalM P w K mg base [c_Rule] [c_Rule] "__init__" ["self","step","first","table"] 6 (sp_Rule___init__ K ns)):Cal P w K mg base "_law_rule" ["_law_drawn","_law_rows_here"] 9 (sp_l_rule K ns):=by
  refine d.cal (k:=8) sc_l_rule (fun vs H Q E h=>?_) (fun f cdv A outer s H vs Q E hr h=>?_)
  · match vs, h with
    | [.ref d, .ref L], _ => rfl
  · match vs, h with
    | [.ref d, .ref L], hq0 =>
      obtain ⟨so,st,fi,one,two,rows,vs,⟨hd,s0,s3,hL,al,good⟩,k⟩:=hq0
      refine ⟨_,(@ss_cutE _ _ _ _ _ (@ps_asg _ _ _ _ _ _ (dv 0) (@pg_tup _ _ _ _ _ _ rfl (@pgs_cons _ _ _ _ _ (@pg_name _ _ (2) _ sc_l_rule.nd rfl (by first | exact Or.inl rfl | exact Or.inr rfl) (by first | exact .inl rfl | exact .inr rfl | assumption)) (@pgs_cons _ _ _ _ _ (@pg_name _ _ (3) _ sc_l_rule.nd rfl (by first | exact Or.inl rfl | exact Or.inr rfl) (by first | exact .inl rfl | exact .inr rfl | assumption)) (@pgs_cons _ _ _ _ _ (@pg_name _ _ (4) _ sc_l_rule.nd rfl (by first | exact Or.inl rfl | exact Or.inr rfl) (by first | exact .inl rfl | exact .inr rfl | assumption)) (@pgs_cons _ _ _ _ _ (@pg_name _ _ (5) _ sc_l_rule.nd rfl (by first | exact Or.inl rfl | exact Or.inr rfl) (by first | exact .inl rfl | exact .inr rfl | assumption)) (@pgs_cons _ _ _ _ _ (@pg_name _ _ (6) _ sc_l_rule.nd rfl (by first | exact Or.inl rfl | exact Or.inr rfl) (by first | exact .inl rfl | exact .inr rfl | assumption)) pgs_nil (by rfl)) (by rfl)) (by rfl)) (by rfl)) (by rfl)) (by rfl) (by rfl)) (by rfl) (by rfl) (by rfl)) (@pss_cons _ _ _ _ _ (@s_if _ _ _ _ _ _ _ _ (@t_cmp _ _ _ _ _ _ _ _ o_eq (dv 2) pe_int (@nomark _ _ (by decide) (by decide))) (@pss_one _ _ _ (@ps_ret _ _ _ _ (e_make c_Rule___init__ (List.Mem.head _) er.m_Rule hr (by decide) (by rfl) er.b_Rule (@pa_cons _ _ _ _ _ (dv 3) (@pa_cons _ _ _ _ _ (dv 4) (@pa_cons _ _ _ _ _ (dv 1) pa_nil (by rfl)) (by rfl)) (by rfl))))) pss_nil) (@pss_cons _ _ _ _ _ (@s_if _ _ _ _ _ _ _ _ (@t_cmp _ _ _ _ _ _ _ _ o_eq (dv 2) pe_int (@nomark _ _ (by decide) (by decide))) (@pss_one _ _ _ (@ps_ret _ _ _ _ (e_make c_Early___init__ (List.Mem.head _) er.m_Early hr (by decide) (by rfl) er.b_Early (@pa_cons _ _ _ _ _ (dv 3) (@pa_cons _ _ _ _ _ (dv 4) (@pa_cons _ _ _ _ _ (dv 1) (@pa_cons _ _ _ _ _ (dv 5) (@pa_cons _ _ _ _ _ (dv 6) pa_nil (by rfl)) (by rfl)) (by rfl)) (by rfl)) (by rfl))))) pss_nil) (@pss_cons _ _ _ _ _ (@s_if _ _ _ _ _ _ _ _ (@t_cmp _ _ _ _ _ _ _ _ o_eq (dv 2) pe_int (@nomark _ _ (by decide) (by decide))) (@pss_one _ _ _ (@ps_ret _ _ _ _ (e_make c_Rested___init__ (List.Mem.head _) er.m_Rested hr (by decide) (by rfl) er.b_Rested (@pa_cons _ _ _ _ _ (dv 3) (@pa_cons _ _ _ _ _ (dv 4) (@pa_cons _ _ _ _ _ (dv 1) (@pa_cons _ _ _ _ _ (dv 5) (@pa_cons _ _ _ _ _ (dv 6) pa_nil (by rfl)) (by rfl)) (by rfl)) (by rfl)) (by rfl))))) pss_nil) (@pss_one _ _ _ (@ps_ret _ _ _ _ (e_make c_Capped___init__ (List.Mem.head _) er.m_Capped hr (by decide) (by rfl) er.b_Capped (@pa_cons _ _ _ _ _ (dv 3) (@pa_cons _ _ _ _ _ (dv 4) (@pa_cons _ _ _ _ _ (dv 1) (@pa_cons _ _ _ _ _ (dv 5) pa_nil (by rfl)) (by rfl)) (by rfl)) (by rfl))))))))),?_⟩
      refine ⟨fun σ H'=>σ = [some (.ref d),some (.ref L),some (.int so),some (.int st),some (.int fi),some (.int one),some (.int two)]∧H' = H,⟨d,_,rfl,SqT.of hd,rfl,_,_,rfl,_,_,rfl,_,_,rfl,_,_,rfl,_,_,rfl,rfl,rfl,rfl⟩,?_⟩
      rintro σ H' ⟨rfl, rfl⟩
      have mk:∀ (C x dx:Addr),H' x = none→H' dx = none→dx ≠ x→∃ H1,H1 = upd (upd H' dx (.own x)) x (.ins C dx [])∧Same H' H1∧H1 x = some (.ins C dx [])∧H1 L = some (.lst vs)∧All2 (RoAt H1) vs rows:=fun C x dx hx hd ne=>by
        have s := mk_same (C := C) hx hd ne
        exact ⟨_,rfl,s,upd_same,s _ _ hL,al.imp fun v g r=>ro_up v g _ _ (kt_of s) r⟩
      have fin:∀ {C x dx T:Addr} {fs:List (Str × V)} {H1 H2:Hp},H' x = none→Same H' H1→All2 (RoAt H1) vs rows→H1 x = some (.ins C dx [])→Sx x H1 H2→T ≠ x→H1 T = none→H2 T = some (.lst vs)→H2 x = some (.ins C dx fs)→Kn K so C→Fds fs so st fi one two T→Same H' H2∧RlN K H' H2 (.ref x) so st fi one two rows:=fun hx s1 a1 e0 s2 nT n1 eT ex kn f=>by
        refine ⟨mk_back hx s1 s2,_,_,_,_,_,rfl,ex,kn,f,⟨_,eT,a1.imp fun v g r=>ro_up v g _ _ (s2.kt e0) r⟩,none_back s1 n1⟩
      refine ⟨fun h => ?_, fun h => ?_⟩
      · have h : so = 0 := by simpa using h
        subst h
        intro x dx hx hd' ne
        obtain ⟨H1,rfl,s1,e1,eL,a1⟩:=mk _ _ _ hx hd' ne
        refine ⟨_,dx,[],rows,vs,⟨e1,er.l_Rule,er.na_Rule_step,er.na_Rule_first,er.na_Rule_table,by decide,eL,a1,good⟩,fun T H2 s2 nT n1 eT ex=>⟨rfl,?_⟩⟩
        have f0:=fd0 (st:=st) (fi:=fi) (T:=T) (fs:=[]) rfl
        obtain ⟨z1,z2⟩:=fin hx s1 a1 e1 s2 nT n1 eT ex (.inl ⟨rfl,er.y_Rule⟩) ⟨f0.st,f0.fi,f0.tb,f0.sz,f0.bt,fun h=>absurd h (by decide),fun h=>absurd h (by decide),fun h=>absurd h (by decide)⟩
        exact k _ H2 z1 z2
      have n0 : so ≠ 0 := by simpa using h
      refine ⟨fun h => ?_, fun h => ?_⟩
      · have h : so = 1 := by simpa using h
        subst h
        intro x dx hx hd' ne
        obtain ⟨H1,rfl,s1,e1,eL,a1⟩:=mk _ _ _ hx hd' ne
        refine ⟨_,dx,rows,vs,⟨e1,er.y_Early,eL,a1,good⟩,fun T fs H2 s2 nT n1 eT ex f=>⟨rfl,?_⟩⟩
        obtain ⟨z1,z2⟩:=fin hx s1 a1 e1 s2 nT n1 eT ex (.inr (.inl ⟨rfl,er.y_Early⟩)) f
        exact k _ H2 z1 z2
      have n1 : so ≠ 1 := by simpa using h
      refine ⟨fun h => ?_, fun h => ?_⟩
      · have h : so = 2 := by simpa using h
        subst h
        intro x dx hx hd' ne
        obtain ⟨H1,rfl,s1,e1,eL,a1⟩:=mk _ _ _ hx hd' ne
        refine ⟨_,dx,rows,vs,⟨e1,er.y_Rested,eL,a1,good⟩,fun T fs H2 s2 nT n1 eT ex f=>⟨rfl,?_⟩⟩
        obtain ⟨z1,z2⟩:=fin hx s1 a1 e1 s2 nT n1 eT ex (.inr (.inr (.inl ⟨rfl,er.y_Rested⟩))) f
        exact k _ H2 z1 z2
      have n2 : so ≠ 2 := by simpa using h
      have h : so = 3 := by omega
      subst h
      intro x dx hx hd' ne
      obtain ⟨H1, rfl, s1, e1, eL, a1⟩ := mk _ _ _ hx hd' ne
      refine ⟨_,dx,rows,vs,⟨e1,er.y_Capped,eL,a1,good⟩,fun T fs H2 s2 nT n1 eT ex f=>⟨rfl,?_⟩⟩
      obtain ⟨z1,z2⟩:=fin hx s1 a1 e1 s2 nT n1 eT ex (.inr (.inr (.inr ⟨rfl,er.y_Capped⟩))) (f two)
      exact k _ H2 z1 z2
def btQ (so one z h:Int) (x:Q2):Q2:=if so = 3 then cutQ (unQ z h x) one else unQ z h x
abbrev lp12 : Pos := ⟨40, 29, 40, 53⟩
abbrev q12:Str:=Str.ofString "in_order" ++ Str.ofString ".<locals>." ++ Str.ofString "<lambda>"
abbrev T12 (K : PySem.W.Frag) : Addr := tabP K "in_order"
def dk (gs : List Gm) (i : Nat) : Int := match gs[i]? with
  | some g => g.d
  | none => 0
theorem stb_nd {key:Nat→Int} {n:Nat} {p:List Nat} (h:Stb key n p):p.Nodup:=h.2.2.imp fun {a b} l e=>by
  subst e
  rcases l with l | ⟨_, l⟩
  · exact Int.lt_irrefl _ l
  · exact Nat.lt_irrefl _ l
theorem stb_rng' {key:Nat→Int} {n:Nat} {p:List Nat} (h:Stb key n p):p.Perm (List.range n):=by
  have nd := stb_nd h
  refine (List.perm_ext_iff_of_nodup nd List.nodup_range).mpr fun i=>⟨fun hi=>List.mem_range.mpr (h.2.1 i hi),fun hi=>?_⟩
  refine Classical.byContradiction fun c => ?_
  have:=nd_len (l:=i :: p) (m:=List.range n) (List.nodup_cons.mpr ⟨c,nd⟩) fun x hx=>by
    rcases List.mem_cons.mp hx with rfl | hx
    · exact hi
    · exact List.mem_range.mpr (h.2.1 x hx)
  rw [List.length_cons, List.length_range, h.1] at this
  omega
theorem stb_uniq {key:Nat→Int} {n:Nat} {p q:List Nat} (hp:Stb key n p) (hq:Stb key n q):p = q:=by
  refine List.Perm.eq_of_pairwise (le:=Lt key) (fun a b _ _ l l'=>?_) hp.2.2 hq.2.2 ((stb_rng' hp).trans (stb_rng' hq).symm)
  rcases l with l | ⟨e, l⟩
  · rcases l' with l' | ⟨e', l'⟩ <;> omega
  · rcases l' with l' | ⟨e', l'⟩ <;> omega
def SmT (P:Addr) (H H':Hp):Prop:=∀ b o,b ≠ P→H b = some o→H' b = some o
def pk (vs:List V) (p:List Nat):List V:=p.map fun i=>vs.getD i .non
theorem dk_at {H:Hp} {vs:List V} {gs:List Gm} (a:All2 (GmAt H) vs gs) {i:Nat} {v:V} (e:vs[i]? = some v):∃ g,gs[i]? = some g∧GmAt H v g∧dk gs i = g.d:=by
  obtain ⟨g, h1, h2⟩ := a.get e
  refine ⟨g, h1, h2, ?_⟩
  unfold dk
  rw [h1]
def sp_in_order (K:PySem.W.Frag) (ns:List Int):Sp:=fun vs H Q _=>match vs with
  | [.ref L]=>∃ (gs:List Gm) (xs:List V),(SqL K H L xs∧All2 (GmAt H) xs gs∧gs.length < 64∧TabOk H (T12 K) lp12 q12)∧∀ D H' p,SmT (T12 K) H H'→H D = none→H' D = some (.lst (pk xs p))→TabOk H' (T12 K) lp12 q12→Stb (dk gs) gs.length p→Q (.ref D) H'
  | _ => False
theorem sc_in_order:FnScope ["games"] ["games"] (defScope s_in_order):=⟨rfl,rfl,rfl,by decide +kernel,rfl,by decide +kernel,by decide +kernel⟩
theorem ok_in_order (d:Dfn K mg "in_order" s_in_order ["games"]) (tk:TabK K mg base "in_order") (er:Errs K mg c_Capped c_Early c_NoTable c_Rested c_Rule) (n_sorted:mg "sorted" = none)  :Cal P w K mg base "in_order" ["games"] 3 (sp_in_order K ns):=by
  refine d.calT (k:=2) tk sc_in_order (fun vs H Q E h=>?_) (fun f cdv A outer s H vs Q E tf hr h=>?_)
  · match vs, h with
    | [.ref L], _ => rfl
  · match vs, h with
    | [.ref L], hq0 =>
      obtain ⟨gs, xs, ⟨hx, hm, hl, hT⟩, k⟩ := hq0
      refine ⟨_,(@pss_one _ _ _ (@ps_ret _ _ _ _ (@e_sortK _ _ _ _ _ _ _ _ _ _ _ _ _ (0) tf hr (by rfl) n_sorted (@pa_cons _ _ _ _ _ (dv 0) pa_nil (by rfl)) (by decide) (by rfl) (by intros; rfl)))),?_⟩
      refine ⟨L,xs,dk gs,rfl,hx,by rw [hm.len]; exact hl,fun i v e=>?_,hT,fun D H2 p s d e t st=>k D H2 p s d e t (by rw [← hm.len]; exact st)⟩
      obtain ⟨g, h1, ⟨a, rfl, ea⟩, h3⟩ := dk_at hm e
      rw [h3]
      exact ⟨a, _, rfl, ea⟩
def BtT (K:PySem.W.Frag) (T:List (Addr × Sp)):Prop:=∀ so C,Kn K so C→∃ sp,(C,sp) ∈ T∧∀ a H st fi one two rows d h p r Q (x:Q2),RlAt K H a so st fi one two rows→Tb rows→Nb st one two→Fq 1300 H d x.1 x.2→0 ≤ h→h ≤ 2→(∀ q H',Same H H'→H' q = some (.tup [.int (btQ so one (szR so st one two p r) h (due rows x.1 x.2)).1,.int (btQ so one (szR so st one two p r) h (due rows x.1 x.2)).2])→Q (.ref q) H')→sp [.ref a,.ref d,.int h,.int p,.int r] H Q E0
theorem bt_mk {K:PySem.W.Frag} {ns:List Int} {c0 c1 c2 c3:Addr} (y0:PySem.W.nsIn K mainGlobals "Rule" = some (some (.ref c0))) (y1:PySem.W.nsIn K mainGlobals "Early" = some (some (.ref c1))) (y2:PySem.W.nsIn K mainGlobals "Rested" = some (some (.ref c2))) (y3:PySem.W.nsIn K mainGlobals "Capped" = some (some (.ref c3))) :
    BtT K [(c0,sp_Rule_bit K ns),(c1,sp_Rule_bit K ns),(c2,sp_Rule_bit K ns),(c3,sp_Capped_bit K ns)]:=by
  rintro so C (⟨rfl, h⟩ | ⟨rfl, h⟩ | ⟨rfl, h⟩ | ⟨rfl, h⟩)
  · have z := ns_inj' h y0
    subst z
    exact ⟨_,.head _,fun a H st fi one two rows d h p r Q x hR tb b f h0 h2 k=>⟨0,st,fi,one,two,rows,x,⟨hR,by decide,tb,b,f,h0,h2⟩,k⟩⟩
  · have z := ns_inj' h y1
    subst z
    exact ⟨_,.tail _ (.head _),fun a H st fi one two rows d h p r Q x hR tb b f h0 h2 k=>⟨1,st,fi,one,two,rows,x,⟨hR,by decide,tb,b,f,h0,h2⟩,k⟩⟩
  · have z := ns_inj' h y2
    subst z
    exact ⟨_,.tail _ (.tail _ (.head _)),fun a H st fi one two rows d h p r Q x hR tb b f h0 h2 k=>⟨2,st,fi,one,two,rows,x,⟨hR,by decide,tb,b,f,h0,h2⟩,k⟩⟩
  · have z := ns_inj' h y3
    subst z
    exact ⟨_,.tail _ (.tail _ (.tail _ (.head _))),fun a H st fi one two rows d h p r Q x hR tb b f h0 h2 k=>⟨st,fi,one,two,rows,x,⟨hR,tb,b,f,h0,h2⟩,k⟩⟩
theorem rpl_ints {K:PySem.W.Frag} {H:Hp}:∀ (us:List Int),RpL K H (us.map V.int) (us.map PyData.int)
  | [] => .nil
  | u :: us => .cons (.int _) (rpl_ints us)
theorem cl_ints:∀ (us:List Int),PyData.canLayAll0 (us.map PyData.int) = true
  | [] => rfl
  | u :: us => by
    show (true && PyData.canLayAll0 (us.map PyData.int)) = true
    rw [cl_ints us]
    rfl
theorem dp_ints:∀ (us:List Int),PyData.depthAll (us.map PyData.int) = 0
  | [] => rfl
  | u :: us => by
    show max 0 (PyData.depthAll (us.map PyData.int)) = 0
    rw [dp_ints us]
    rfl
theorem sh_ints (us:List Int):SeqAt.shaped (.list (us.map PyData.int)) = true:=by
  unfold SeqAt.shaped
  have e:(PyData.list (us.map PyData.int)).depth = PyData.depthAll (us.map PyData.int) + 1:=rfl
  have := dp_ints us
  rw [show (PyData.list (us.map PyData.int)).canLay0 = true from cl_ints us,e,Bool.true_and]
  exact decide_eq_true (by omega)
structure Ps where
  q : Q2
  n : Nat
  l : Int
abbrev Wn := Str → Option Ps
def wq (fi : Int) : Option Ps → Q2
  | some p => p.q
  | none => (fi, 1)
def wnn : Option Ps → Nat
  | some p => p.n
  | none => 0
def wr (d : Int) : Option Ps → Int
  | some p => d - p.l
  | none => 0
def mn (i j : Int) : Int := if j < i then j else i
def mx (i j : Int) : Int := if j > i then j else i
def lsd (d : Int) : Option Int → Int
  | some l => d - l
  | none => 0
def sp_rest_behind (K:PySem.W.Frag) (ns:List Int):Sp:=fun vs H Q _=>match vs with
  | [.ref L,.int d]=>∃ xs:List Int,H L = some (.lst (xs.map V.int))∧∀ H',Same H H'→Q (.int (lsd d xs.getLast?)) H'
  | _ => False
theorem sc_rest_behind:FnScope ["days","day"] ["days","day"] (defScope s_rest_behind):=⟨rfl,rfl,rfl,by decide +kernel,rfl,by decide +kernel,by decide +kernel⟩
theorem ok_rest_behind (d:Dfn K mg "rest_behind" s_rest_behind ["days","day"]) (er:Errs K mg c_Capped c_Early c_NoTable c_Rested c_Rule)   :Cal P w K mg base "rest_behind" ["days","day"] 1 (sp_rest_behind K ns):=by
  refine d.cal (k:=0) sc_rest_behind (fun vs H Q E h=>?_) (fun f cdv A outer s H vs Q E hr h=>?_)
  · match vs, h with
    | [.ref L, .int d], _ => rfl
  · match vs, h with
    | [.ref L, .int d], hq0 =>
      obtain ⟨xs, hL, k⟩ := hq0
      refine ⟨_,(@pss_one _ _ _ (@ps_ret _ _ _ _ (@e_if _ _ _ _ _ _ _ _ (@t_cmp _ _ _ _ _ _ _ _ (@o_eqD _ hr.units) (dv 0) (@e_lst _ _ _ _ pa_nil) (@nomark _ _ (by decide) (by decide))) pe_int (@pe_op _ _ _ _ _ _ _ _ o_sub (dv 1) (@pe_ix _ _ _ _ _ _ _ i_lst (dv 0) (@pe_un _ _ _ _ _ _ u_neg pe_int) (fun _ _=>rfl)))))),?_⟩
      intro E0' H1 s1 e1
      have hL1 := s1 _ _ hL
      refine ⟨_,_,.lst (SqL.of hL1) (rpl_ints xs),.lst (SqL.of e1) .nil,sh_ints xs,rfl,?_⟩
      cases xs with
      | nil=>exact ⟨fun _=>k H1 s1,fun h=>absurd (show PyData.eqv (.list []) (.list []) = false from h) (by decide)⟩
      | cons x xs =>
        have ne:PyData.eqv (.list ((x :: xs).map PyData.int)) (.list []) = false:=rfl
        rw [ne]
        refine ⟨fun h => nb h, fun _ => ?_⟩
        obtain ⟨l,hl⟩:∃ l,(x :: xs).getLast? = some l:=by
          cases c : (x :: xs).getLast? with
          | none => simp at c
          | some l => exact ⟨l, rfl⟩
        refine ⟨_,.int l,SqL.of hL1,atI_last (by rw [List.getLast?_map,hl]; rfl),?_⟩
        have := k H1 s1
        rw [hl] at this
        exact this
structure Sd where
  g : Gm
  x : Q2
  y : Q2
  b : Q2
def SdAt (H:Hp) (v:V) (s:Sd):Prop:=∃ t pg px py pb,v = .ref t∧H t = some (.tup [.ref pg,.ref px,.ref py,.ref pb])∧H pg = some (.tup [.int s.g.d,.str s.g.a,.str s.g.b,.int s.g.h,.int s.g.s])∧H px = some (.tup [.int s.x.1,.int s.x.2])∧H py = some (.tup [.int s.y.1,.int s.y.2])∧H pb = some (.tup [.int s.b.1,.int s.b.2])
theorem sd_up (v:V) (s:Sd) (H H':Hp) (k:Kt H H') (h:SdAt H v s):SdAt H' v s:=by
  obtain ⟨t, pg, px, py, pb, e, h0, h1, h2, h3, h4⟩ := h
  exact ⟨t,pg,px,py,pb,e,k _ _ h0,k _ _ h1,k _ _ h2,k _ _ h3,k _ _ h4⟩
def plQ (x y:Q2):Q2:=(frT (x.1 * y.2 + y.1 * x.2) (x.2 * y.2),frB (x.1 * y.2 + y.1 * x.2) (x.2 * y.2))
def mnQ (x y:Q2):Q2:=(frT (x.1 * y.2 - y.1 * x.2) (x.2 * y.2),frB (x.1 * y.2 - y.1 * x.2) (x.2 * y.2))
structure Sq (n : Nat) (x : Q2) : Prop where
  pos : 0 < x.2
  ba : Bd n x.1
  bb : Bd n x.2
theorem Sq.fq {n m:Nat} {H:Hp} {p:Addr} {x:Q2} (s:Sq n x) (l:n ≤ m) (e:H p = some (.tup [.int x.1,.int x.2])):Fq m H p x.1 x.2:=⟨e,s.pos,s.ba.mono l,s.bb.mono l⟩
def sp_move (K:PySem.W.Frag) (ns:List Int):Sp:=fun vs H Q _=>match vs with
  | [.ref W,v]=>∃ (kvs:List (Key × V)) (s:Sd),(H W = some (.dK kvs)∧kvs.length ≤ 100∧SdAt H v s∧Sq 900 s.x∧Sq 900 s.y∧Sq 900 s.b)∧∀ p1 p2 H',Sx W H H'→p1 ≠ W→p2 ≠ W→H' p1 = some (.tup [.int (plQ s.x s.b).1,.int (plQ s.x s.b).2])→H' p2 = some (.tup [.int (mnQ s.y s.b).1,.int (mnQ s.y s.b).2])→H' W = some (.dK (putK (putK kvs (Sum.inr s.g.a) (.ref p1)) (Sum.inr s.g.b) (.ref p2)))→Q .non H'
  | _ => False
theorem sc_move:FnScope ["worths","step"] ["worths","step"] (defScope s_move):=⟨rfl,rfl,rfl,by decide +kernel,rfl,by decide +kernel,by decide +kernel⟩
theorem ok_move (d:Dfn K mg "move" s_move ["worths","step"]) (er:Errs K mg c_Capped c_Early c_NoTable c_Rested c_Rule)   (c_minus:Cal P w K mg base "minus" ["one","other"] 3 (sp_minus K ns)) (c_plus:Cal P w K mg base "plus" ["one","other"] 3 (sp_plus K ns)):Cal P w K mg base "move" ["worths","step"] 4 (sp_move K ns):=by
  refine d.cal (k:=3) sc_move (fun vs H Q E h=>?_) (fun f cdv A outer s H vs Q E hr h=>?_)
  · match vs, h with
    | [.ref W, v], _ => rfl
  · match vs, h with
    | [.ref W, v], hq0 =>
      obtain ⟨kvs,s,⟨hW,lk,⟨t,pg,px,py,pb,ev,h0,h1,h2,h3,h4⟩,sx,sy,sb⟩,k⟩:=hq0
      refine ⟨_,(@pss_cons _ _ _ _ _ (@ps_dput _ _ _ _ _ _ _ _ _ (@u1 _ _ hr.units) (dv 0) (@pe_ix _ _ _ _ _ _ _ i_tup (@pe_ix _ _ _ _ _ _ _ i_tup (dv 1) pe_int (fun _ _=>rfl)) pe_int (fun _ _=>rfl)) (@e_call _ _ _ _ _ _ _ _ _ _ _ c_plus hr (by decide) (by rfl) (@pa_cons _ _ _ _ _ (@pe_ix _ _ _ _ _ _ _ i_tup (dv 1) pe_int (fun _ _=>rfl)) (@pa_cons _ _ _ _ _ (@pe_ix _ _ _ _ _ _ _ i_tup (dv 1) pe_int (fun _ _=>rfl)) pa_nil (by rfl)) (by rfl)) (by decide) (by rfl) (by rfl)) rfl) (@pss_one _ _ _ (@ps_dput _ _ _ _ _ _ _ _ _ (@u1 _ _ hr.units) (dv 0) (@pe_ix _ _ _ _ _ _ _ i_tup (@pe_ix _ _ _ _ _ _ _ i_tup (dv 1) pe_int (fun _ _=>rfl)) pe_int (fun _ _=>rfl)) (@e_call _ _ _ _ _ _ _ _ _ _ _ c_minus hr (by decide) (by rfl) (@pa_cons _ _ _ _ _ (@pe_ix _ _ _ _ _ _ _ i_tup (dv 1) pe_int (fun _ _=>rfl)) (@pa_cons _ _ _ _ _ (@pe_ix _ _ _ _ _ _ _ i_tup (dv 1) pe_int (fun _ _=>rfl)) pa_nil (by rfl)) (by rfl)) (by decide) (by rfl) (by rfl)) rfl))),?_⟩
      subst ev
      have ne:∀ {b:Addr} {xs:List V},H b = some (.tup xs)→b ≠ W:=fun e z=>by rw [z,hW] at e; cases e
      refine ⟨_,h0,_,h0,s.x,s.b,⟨sx.fq (by decide) h2,sb.fq (by decide) h4⟩,fun p1 H1 s1 f1=>⟨_,s1 _ _ h0,_,s1 _ _ h1,W,_,rfl,DPut.k (k:=Sum.inr s.g.a) (s1 _ _ hW) ?_,?_⟩⟩
      · exact Nat.lt_of_le_of_lt lk (by decide)
      have x1:Sx W H (upd H1 W (.dK (putK kvs (Sum.inr s.g.a) (.ref p1)))):=Sx.trans (Sx.of s1) Sx.upd
      have e1:upd H1 W (.dK (putK kvs (Sum.inr s.g.a) (.ref p1))) W = some (.dK (putK kvs (Sum.inr s.g.a) (.ref p1))):=upd_same
      have n1 : p1 ≠ W := fun z => by
        have := f1.at'
        rw [z, s1 _ _ hW] at this
        cases this
      have g1:upd H1 W (.dK (putK kvs (Sum.inr s.g.a) (.ref p1))) p1 = some (.tup [.int (plQ s.x s.b).1,.int (plQ s.x s.b).2]):=by rw [upd_ne n1]; exact f1.at'
      generalize upd H1 W (.dK (putK kvs (Sum.inr s.g.a) (.ref p1))) = H2 at x1 e1 g1
      have l1 := length_putK kvs (Sum.inr s.g.a) (.ref p1)
      have q0 := x1 _ _ (ne h0) h0
      have q1 := x1 _ _ (ne h1) h1
      refine ⟨_,q0,_,q0,s.y,s.b,⟨sy.fq (by decide) (x1 _ _ (ne h3) h3),sb.fq (by decide) (x1 _ _ (ne h4) h4)⟩,fun p2 H3 s3 f3=>⟨_,s3 _ _ q0,_,s3 _ _ q1,W,_,rfl,DPut.k (k:=Sum.inr s.g.b) (s3 _ _ e1) ?_,?_⟩⟩
      · exact Nat.lt_of_le_of_lt (show _ ≤ 101 by omega) (by decide)
      have n2 : p2 ≠ W := fun z => by
        have := f3.at'
        rw [z, s3 _ _ e1] at this
        cases this
      exact k p1 p2 _ (x1.trans (Sx.trans (Sx.of s3) Sx.upd)) n1 n2 (by rw [upd_ne n1]; exact s3 _ _ g1) (by rw [upd_ne n2]; exact f3.at') upd_same
def WsAt (H:Hp) (W:Addr) (n:Nat) (u:Str→Option Q2):Prop:=∃ kvs,H W = some (.dK kvs)∧kvs.length ≤ n∧∀ x,(u x = none∧valV kvs (Sum.inr x) = none) ∨ ∃ q p,u x = some q∧valV kvs (Sum.inr x) = some (.ref p)∧H p = some (.tup [.int q.1,.int q.2])
def DyAt (H:Hp) (D:Addr) (n:Nat) (v:Str→Option (Nat × Int)):Prop:=∃ kvs,H D = some (.dK kvs)∧kvs.length ≤ n∧∀ x,(v x = none∧valV kvs (Sum.inr x) = none) ∨ ∃ m l p xs,v x = some (m,l)∧valV kvs (Sum.inr x) = some (.ref p)∧H p = some (.lst ((xs:List Int).map V.int))∧xs.length = m∧xs.getLast? = some l
def wU (w : Wn) : Str → Option Q2 := fun x => (w x).map Ps.q
def wV (w:Wn):Str→Option (Nat × Int):=fun x=>(w x).map fun s=>(s.n,s.l)
theorem WsAt.up {H H':Hp} {W:Addr} {n:Nat} {u:Str→Option Q2} (s:Same H H') (h:WsAt H W n u):WsAt H' W n u:=by
  obtain ⟨kvs, e, l, a⟩ := h
  exact ⟨kvs,s _ _ e,l,fun x=>(a x).imp id fun ⟨q,p,h1,h2,h3⟩=>⟨q,p,h1,h2,s _ _ h3⟩⟩
theorem DyAt.up {H H':Hp} {W:Addr} {n:Nat} {v:Str→Option (Nat × Int)} (s:Same H H') (h:DyAt H W n v):DyAt H' W n v:=by
  obtain ⟨kvs, e, l, a⟩ := h
  exact ⟨kvs,s _ _ e,l,fun x=>(a x).imp id fun ⟨m,l,p,xs,h1,h2,h3,h4⟩=>⟨m,l,p,xs,h1,h2,s _ _ h3,h4⟩⟩
theorem WsAt.get {H:Hp} {W T:Addr} {n:Nat} {w:Wn} {fi:Int} (h:WsAt H W n (wU w)) (x:Str) (e:H T = some (.tup [.int fi,.int 1])):∃ o p,DGet H W (.str x) o∧o.getD (.ref T) = .ref p∧H p = some (.tup [.int (wq fi (w x)).1,.int (wq fi (w x)).2]):=by
  obtain ⟨kvs, eW, l, a⟩ := h
  have d := DGet.k (k := Sum.inr x) eW
  rcases a x with ⟨h1, h2⟩ | ⟨q, p, h1, h2, h3⟩
  · rw [h2] at d
    have : w x = none := Option.map_eq_none_iff.mp h1
    rw [this]
    exact ⟨_, T, d, rfl, e⟩
  · rw [h2] at d
    obtain ⟨s, hs, rfl⟩ := Option.map_eq_some_iff.mp h1
    rw [hs]
    exact ⟨_, p, d, rfl, h3⟩
theorem DyAt.get' {H:Hp} {D T:Addr} {n:Nat} {v:Str→Option (Nat × Int)} (h:DyAt H D n v) (x:Str) (e:H T = some (.lst [])):∃ o p xs,DGet H D (.str x) o∧o.getD (.ref T) = .ref p∧H p = some (.lst ((xs:List Int).map V.int))∧((v x = none∧xs = []) ∨ ∃ m l,v x = some (m,l)∧xs.length = m∧xs.getLast? = some l):=by
  obtain ⟨kvs, eW, l, a⟩ := h
  have d := DGet.k (k := Sum.inr x) eW
  rcases a x with ⟨h1,h2⟩ | ⟨m,l,p,xs,h1,h2,h3,h4,h5⟩
  · rw [h2] at d
    exact ⟨_, T, [], d, rfl, e, .inl ⟨h1, rfl⟩⟩
  · rw [h2] at d
    exact ⟨_, p, xs, d, rfl, h3, .inr ⟨m, l, h1, h4, h5⟩⟩
theorem DyAt.get {H:Hp} {D T:Addr} {n:Nat} {w:Wn} (h:DyAt H D n (wV w)) (x:Str) (e:H T = some (.lst [])):∃ o p xs,DGet H D (.str x) o∧o.getD (.ref T) = .ref p∧H p = some (.lst ((xs:List Int).map V.int))∧xs.length = wnn (w x)∧∀ d,lsd d xs.getLast? = wr d (w x):=by
  obtain ⟨o, p, xs, d, g, q, c⟩ := h.get' x e
  refine ⟨o, p, xs, d, g, q, ?_⟩
  rcases c with ⟨h1, rfl⟩ | ⟨m, l, h1, h4, h5⟩
  · have : w x = none := Option.map_eq_none_iff.mp h1
    rw [this]
    exact ⟨rfl, fun _ => rfl⟩
  · obtain ⟨s, hs, e⟩ := Option.map_eq_some_iff.mp h1
    cases e
    rw [hs, h5]
    exact ⟨h4, fun _ => rfl⟩
def gbit (so st fi one two:Int) (rows:List Rw) (w:Wn) (g:Gm):Q2 :=
  btQ so one (szR so st one two (mn (wnn (w g.a)) (wnn (w g.b))) (mx (wr g.d (w g.a)) (wr g.d (w g.b)))) g.h (due rows (mnQ (wq fi (w g.a)) (wq fi (w g.b))).1 (mnQ (wq fi (w g.a)) (wq fi (w g.b))).2)
theorem mnQ_fq {n m:Nat} {H:Hp} {p:Addr} {x y:Q2} (sx:Sq n x) (sy:Sq n y) (l:n + n + 1 ≤ m) (f:FrAt H p (x.1 * y.2 - y.1 * x.2) (x.2 * y.2)):Fq m H p (mnQ x y).1 (mnQ x y).2 :=
  (f.fq (n:=m) (Int.ne_of_gt (Int.mul_pos sx.pos sy.pos)) ((Bd.sub (sx.ba.mul sy.bb) (sy.ba.mul sx.bb)).mono l) ((sx.bb.mul sy.bb).mono (by omega)))
def sp_next_step (K:PySem.W.Frag) (ns:List Int):Sp:=fun vs H Q _=>match vs with
  | [.ref r,.ref W,.ref D,.ref pg]=>∃ (so st fi one two:Int) (rows:List Rw) (w:Wn) (n:Nat) (g:Gm),(RlAt K H r so st fi one two rows∧Tb rows∧Nb st one two∧WsAt H W n (wU w)∧DyAt H D n (wV w)∧H pg = some (.tup [.int g.d,.str g.a,.str g.b,.int g.h,.int g.s])∧0 ≤ g.h∧g.h ≤ 2∧Sq 620 (wq fi (w g.a))∧Sq 620 (wq fi (w g.b))) ∧
    ∀ v H',Same H H'→SdAt H' v ⟨g,wq fi (w g.a),wq fi (w g.b),gbit so st fi one two rows w g⟩→Q v H'
  | _ => False
theorem sc_next_step:FnScope ["rule","worths","days","played","before","other_before","own","others","fewest","longest"] ["rule","worths","days","played"] (defScope s_next_step):=⟨rfl,rfl,rfl,by decide +kernel,rfl,by decide +kernel,by decide +kernel⟩
theorem ok_next_step (d:Dfn K mg "next_step" s_next_step ["rule","worths","days","played"]) (er:Errs K mg c_Capped c_Early c_NoTable c_Rested c_Rule) (n_max:mg "max" = none) (n_min:mg "min" = none) (n_len:mg "len" = none)  (c_Capped_bit:CalM P w K mg base [c_Capped] [] "bit" ["self","difference","halves","played","rest"] 7 (sp_Capped_bit K ns)) (c_Rule_bit:CalM P w K mg base [c_Rule,c_Early,c_Rested] [] "bit" ["self","difference","halves","played","rest"] 7 (sp_Rule_bit K ns)) (c_minus:Cal P w K mg base "minus" ["one","other"] 3 (sp_minus K ns)) (c_rest_behind:Cal P w K mg base "rest_behind" ["days","day"] 1 (sp_rest_behind K ns)):Cal P w K mg base "next_step" ["rule","worths","days","played"] 8 (sp_next_step K ns):=by
  refine d.cal (k:=7) sc_next_step (fun vs H Q E h=>?_) (fun f cdv A outer s H vs Q E hr h=>?_)
  · match vs, h with
    | [.ref r, .ref W, .ref D, .ref pg], _ => rfl
  · match vs, h with
    | [.ref r, .ref W, .ref D, .ref pg], hq0 =>
      obtain ⟨so,st,fi,one,two,rows,w,n,g,⟨hR,tb,b,hW,hD,hg,h0,h2,sa,sb⟩,k⟩:=hq0
      refine ⟨_,(@pss_cons _ _ _ _ _ (@ps_set _ _ (4) _ _ _ _ sc_next_step.nd rfl (by first | exact Or.inl rfl | exact Or.inr rfl) (@pe_dget2 _ _ _ _ _ _ _ _ _ (@u1 _ _ hr.units) (dv 1) (@pe_ix _ _ _ _ _ _ _ i_tup (dv 3) pe_int (fun _ _=>rfl)) (@e_tup _ _ _ _ _ (@pa_cons _ _ _ _ _ (@pe_fld _ _ _ _ _ (dv 0) (by rfl)) (@pa_cons _ _ _ _ _ pe_int pa_nil (by rfl)) (by rfl))) ⟨rfl,rfl,rfl,rfl⟩) (by rfl) (by first | exact .inl rfl | exact .inr rfl | assumption)) (@pss_cons _ _ _ _ _ (@ps_set _ _ (5) _ _ _ _ sc_next_step.nd rfl (by first | exact Or.inl rfl | exact Or.inr rfl) (@pe_dget2 _ _ _ _ _ _ _ _ _ (@u1 _ _ hr.units) (dv 1) (@pe_ix _ _ _ _ _ _ _ i_tup (dv 3) pe_int (fun _ _=>rfl)) (@e_tup _ _ _ _ _ (@pa_cons _ _ _ _ _ (@pe_fld _ _ _ _ _ (dv 0) (by rfl)) (@pa_cons _ _ _ _ _ pe_int pa_nil (by rfl)) (by rfl))) ⟨rfl,rfl,rfl,rfl⟩) (by rfl) (by first | exact .inl rfl | exact .inr rfl | assumption)) (@pss_cons _ _ _ _ _ (@ps_set _ _ (6) _ _ _ _ sc_next_step.nd rfl (by first | exact Or.inl rfl | exact Or.inr rfl) (@pe_dget2 _ _ _ _ _ _ _ _ _ (@u1 _ _ hr.units) (dv 2) (@pe_ix _ _ _ _ _ _ _ i_tup (dv 3) pe_int (fun _ _=>rfl)) (@e_lst _ _ _ _ pa_nil) ⟨rfl,rfl,rfl,rfl⟩) (by rfl) (by first | exact .inl rfl | exact .inr rfl | assumption)) (@pss_cons _ _ _ _ _ (@ps_set _ _ (7) _ _ _ _ sc_next_step.nd rfl (by first | exact Or.inl rfl | exact Or.inr rfl) (@pe_dget2 _ _ _ _ _ _ _ _ _ (@u1 _ _ hr.units) (dv 2) (@pe_ix _ _ _ _ _ _ _ i_tup (dv 3) pe_int (fun _ _=>rfl)) (@e_lst _ _ _ _ pa_nil) ⟨rfl,rfl,rfl,rfl⟩) (by rfl) (by first | exact .inl rfl | exact .inr rfl | assumption)) (@pss_cons _ _ _ _ _ (@ps_set _ _ (8) _ _ _ _ sc_next_step.nd rfl (by first | exact Or.inl rfl | exact Or.inr rfl) (@pe_callB _ _ _ _ _ _ _ _ _ (@call_min2 _ rfl) (by rfl) n_min (by decide +kernel) (@pa_cons _ _ _ _ _ (@pe_callB _ _ _ _ _ _ _ _ _ c_len (by rfl) n_len (by decide +kernel) (@pa_cons _ _ _ _ _ (dv 6) pa_nil (by rfl)) (by decide) (by decide) (by rfl) (by rfl)) (@pa_cons _ _ _ _ _ (@pe_callB _ _ _ _ _ _ _ _ _ c_len (by rfl) n_len (by decide +kernel) (@pa_cons _ _ _ _ _ (dv 7) pa_nil (by rfl)) (by decide) (by decide) (by rfl) (by rfl)) pa_nil (by rfl)) (by rfl)) (by decide) (by decide) (by rfl) (by rfl)) (by rfl) (by first | exact .inl rfl | exact .inr rfl | assumption)) (@pss_cons _ _ _ _ _ (@ps_set _ _ (9) _ _ _ _ sc_next_step.nd rfl (by first | exact Or.inl rfl | exact Or.inr rfl) (@pe_callB _ _ _ _ _ _ _ _ _ (@call_max2 _ rfl) (by rfl) n_max (by decide +kernel) (@pa_cons _ _ _ _ _ (@e_call _ _ _ _ _ _ _ _ _ _ _ c_rest_behind hr (by decide) (by rfl) (@pa_cons _ _ _ _ _ (dv 6) (@pa_cons _ _ _ _ _ (@pe_ix _ _ _ _ _ _ _ i_tup (dv 3) pe_int (fun _ _=>rfl)) pa_nil (by rfl)) (by rfl)) (by decide) (by rfl) (by rfl)) (@pa_cons _ _ _ _ _ (@e_call _ _ _ _ _ _ _ _ _ _ _ c_rest_behind hr (by decide) (by rfl) (@pa_cons _ _ _ _ _ (dv 7) (@pa_cons _ _ _ _ _ (@pe_ix _ _ _ _ _ _ _ i_tup (dv 3) pe_int (fun _ _=>rfl)) pa_nil (by rfl)) (by rfl)) (by decide) (by rfl) (by rfl)) pa_nil (by rfl)) (by rfl)) (by decide) (by decide) (by rfl) (by rfl)) (by rfl) (by first | exact .inl rfl | exact .inr rfl | assumption)) (@pss_one _ _ _ (@ps_ret _ _ _ _ (@e_tup _ _ _ _ _ (@pa_cons _ _ _ _ _ (dv 3) (@pa_cons _ _ _ _ _ (dv 4) (@pa_cons _ _ _ _ _ (dv 5) (@pa_cons _ _ _ _ _ (e_methV (dv 0) (mv_cons c_Rule_bit (List.Mem.head _) er.l_Rule (by decide) (mv_cons c_Rule_bit (List.Mem.tail _ (List.Mem.head _)) er.l_Early (by decide) (mv_cons c_Rule_bit (List.Mem.tail _ (List.Mem.tail _ (List.Mem.head _))) er.l_Rested (by decide) (mv_cons c_Capped_bit (List.Mem.head _) er.l_Capped (by decide) mv_nil)))) hr (@pa_cons _ _ _ _ _ (@e_call _ _ _ _ _ _ _ _ _ _ _ c_minus hr (by decide) (by rfl) (@pa_cons _ _ _ _ _ (dv 4) (@pa_cons _ _ _ _ _ (dv 5) pa_nil (by rfl)) (by rfl)) (by decide) (by rfl) (by rfl)) (@pa_cons _ _ _ _ _ (@pe_ix _ _ _ _ _ _ _ i_tup (dv 3) pe_int (fun _ _=>rfl)) (@pa_cons _ _ _ _ _ (dv 8) (@pa_cons _ _ _ _ _ (dv 9) pa_nil (by rfl)) (by rfl)) (by rfl)) (by rfl))) pa_nil (by rfl)) (by rfl)) (by rfl)) (by rfl))))))))))),?_⟩
      have hR' := hR
      obtain ⟨C, dx, fs, T, e, kn, f, ht⟩ := hR'
      have cn : Cls K C ∧ NoAttr K C "first" := by
        rcases kn with ⟨_, y⟩ | ⟨_, y⟩ | ⟨_, y⟩ | ⟨_, y⟩
        · exact ns_inj' er.y_Rule y ▸ ⟨er.l_Rule,er.na_Rule_first⟩
        · exact ns_inj' er.y_Early y ▸ ⟨er.l_Early,er.na_Early_first⟩
        · exact ns_inj' er.y_Rested y ▸ ⟨er.l_Rested,er.na_Rested_first⟩
        · exact ns_inj' er.y_Capped y ▸ ⟨er.l_Capped,er.na_Capped_first⟩
      have isW:∀ {H':Hp},WsAt H' W n (wU w)→IsD H' W:=fun ⟨kvs,z,_⟩=>.inl ⟨kvs,.inl z⟩
      have isD:∀ {H':Hp},DyAt H' D n (wV w)→IsD H' D:=fun ⟨kvs,z,_⟩=>.inl ⟨kvs,.inl z⟩
      refine ⟨W,rfl,isW hW,_,hg,r,C,dx,fs,_,rfl,e,cn.1,cn.2,f.fi,fun T1 H1 s1 e1=>?_⟩
      obtain ⟨o1, px, d1, g1, q1⟩ := (hW.up s1).get g.a e1
      refine ⟨o1, d1, ?_⟩
      rw [g1]
      refine ⟨W,rfl,isW (hW.up s1),_,s1 _ _ hg,r,C,dx,fs,_,rfl,s1 _ _ e,cn.1,cn.2,f.fi,fun T2 H2 s2 e2=>?_⟩
      have s12 := s1.trans s2
      obtain ⟨o2, py, d2, g2, q2⟩ := (hW.up s12).get g.b e2
      refine ⟨o2, d2, ?_⟩
      rw [g2]
      have hg2 := s12 _ _ hg
      refine ⟨D,rfl,isD (hD.up s12),_,hg2,fun T3 H3 s3 e3=>?_⟩
      have s13 := s12.trans s3
      obtain ⟨o3,p3,xs3,d3,g3,q3,n3,r3⟩:=(hD.up s13).get g.a e3
      refine ⟨o3, d3, ?_⟩
      rw [g3]
      refine ⟨D,rfl,isD (hD.up s13),_,s13 _ _ hg,fun T4 H4 s4 e4=>?_⟩
      have s14 := s13.trans s4
      obtain ⟨o4,p4,xs4,d4,g4,q4,n4,r4⟩:=(hD.up s14).get g.b e4
      refine ⟨o4, d4, ?_⟩
      rw [g4]
      have q3 := s4 _ _ q3
      refine ⟨_,.inl (SqL.of q3),_,.inl (SqL.of q4),_,_,rfl,?_⟩
      rw [List.length_map, List.length_map, n3, n4]
      refine ⟨_,s14 _ _ hg,xs3,q3,fun H5 s5=>⟨_,(s14.trans s5) _ _ hg,xs4,s5 _ _ q4,fun H6 s6=>⟨_,_,rfl,?_⟩⟩⟩
      rw [r3, r4]
      have s46 := s5.trans s6
      have s16 := s14.trans s46
      have hbt:=bt_mk (ns:=ns) er.y_Rule er.y_Early er.y_Rested er.y_Capped
      obtain ⟨sp2, hm2, hs2⟩ := hbt so C kn
      have q1 := (s2.trans (s3.trans (s4.trans s46))) _ _ q1
      have q2 := (s3.trans (s4.trans s46)) _ _ q2
      refine ⟨r,C,dx,fs,sp2,rfl,s16 _ _ e,hm2,f.bt,wq fi (w g.a),wq fi (w g.b),⟨sa.fq (by decide) q1,sb.fq (by decide) q2⟩,fun q7 H7 s7 f7=>⟨_,(s16.trans s7) _ _ hg,?_⟩⟩
      refine hs2 r H7 st fi one two rows q7 g.h _ _ _ (mnQ (wq fi (w g.a)) (wq fi (w g.b))) (hR.up (s16.trans s7)) tb b (mnQ_fq sa sb (by decide) f7) h0 h2 fun q8 H8 s8 e8=>fun S H9 s9 e9=>?_
      have s69 := s7.trans (s8.trans s9)
      exact k _ H9 (s16.trans s69) ⟨S,pg,px,py,q8,rfl,e9,(s16.trans s69) _ _ hg,s69 _ _ q1,s69 _ _ q2,s9 _ _ e8⟩
structure WB (i : Nat) (x : Q2) : Prop where
  pos : 0 < x.2
  ba : Bd (121 + 16 * i) x.1
  bb : Bd (1 + 15 * i) x.2
structure BB (x : Q2) : Prop where
  pos : 0 < x.2
  ba : Bd 120 x.1
  bb : Bd 15 x.2
theorem WB.mono {i j:Nat} {x:Q2} (h:WB i x) (l:i ≤ j):WB j x:=⟨h.pos,h.ba.mono (by omega),h.bb.mono (by omega)⟩
theorem WB.sq {i n:Nat} {x:Q2} (h:WB i x) (l:121 + 16 * i ≤ n):Sq n x:=⟨h.pos,h.ba.mono l,h.bb.mono (by omega)⟩
theorem BB.sq {n:Nat} {x:Q2} (h:BB x) (l:120 ≤ n):Sq n x:=⟨h.pos,h.ba.mono l,h.bb.mono (by omega)⟩
theorem wb_pl {i:Nat} {x b:Q2} (h:WB i x) (hb:BB b):WB (i + 1) (plQ x b):=by
  refine ⟨frB_pos _ (Int.ne_of_gt (Int.mul_pos h.pos hb.pos)),bd_frT ?_,bd_frB ?_⟩
  · exact (Bd.add ((h.ba.mul hb.bb).mono (show 121 + 16 * i + 15 ≤ 136 + 16 * i by omega)) ((hb.ba.mul h.bb).mono (show 120 + (1 + 15 * i) ≤ 136 + 16 * i by omega))).mono (by omega)
  · exact (h.bb.mul hb.bb).mono (by omega)
theorem wb_mn {i:Nat} {x b:Q2} (h:WB i x) (hb:BB b):WB (i + 1) (mnQ x b):=by
  refine ⟨frB_pos _ (Int.ne_of_gt (Int.mul_pos h.pos hb.pos)),bd_frT ?_,bd_frB ?_⟩
  · exact (Bd.sub ((h.ba.mul hb.bb).mono (show 121 + 16 * i + 15 ≤ 136 + 16 * i by omega)) ((hb.ba.mul h.bb).mono (show 120 + (1 + 15 * i) ≤ 136 + 16 * i by omega))).mono (by omega)
  · exact (h.bb.mul hb.bb).mono (by omega)
theorem bb_bt {so st one two p r h:Int} {x:Q2} (s:ShQ x) (b:Nb st one two) (h0:0 ≤ h) (h2:h ≤ 2):BB (btQ so one (szR so st one two p r) h x):=by
  obtain ⟨_,_,_,_,b5,_⟩:=s.bT (szR_bd (so:=so) (p:=p) (r:=r) b) h0 h2
  have s0 := s.b0
  have s1 := s.b1
  have u : BB (unQ (szR so st one two p r) h x) := by
    refine ⟨frB_pos _ (by show 2 * x.2 ≠ 0; omega),bd_frT b5,bd_frB ?_⟩
    exact bd_of (b:=20000) (by unfold unB; omega) (by unfold unB; omega) (bd_lit rfl)
  unfold btQ
  split
  · unfold cutQ
    split
    · exact ⟨(by decide:(0:Int) < 1),b.bon.mono (by decide),bd_lit rfl⟩
    · split
      · exact ⟨(by decide:(0:Int) < 1),(b.bon.mono (by decide)).neg,bd_lit rfl⟩
      · exact u
  · exact u
def nxt (so st fi one two:Int) (rows:List Rw) (w:Wn) (g:Gm):Wn:=fun x =>
  if x = g.b then some ⟨mnQ (wq fi (w g.b)) (gbit so st fi one two rows w g),wnn (w g.b) + 1,g.d⟩
  else if x = g.a then some ⟨plQ (wq fi (w g.a)) (gbit so st fi one two rows w g),wnn (w g.a) + 1,g.d⟩ else w x
def trl (so st fi one two:Int) (rows:List Rw):Wn→List Gm→List Sd
  | _, [] => []
  | w,g :: gs=>⟨g,wq fi (w g.a),wq fi (w g.b),gbit so st fi one two rows w g⟩ :: trl so st fi one two rows (nxt so st fi one two rows w g) gs
def wst (so st fi one two:Int) (rows:List Rw) (w:Wn) (gs:List Gm):Wn:=gs.foldl (nxt so st fi one two rows) w
theorem trl_snoc {so st fi one two:Int} {rows:List Rw} {g:Gm}:∀ {gs:List Gm} {w:Wn},trl so st fi one two rows w (gs ++ [g]) = trl so st fi one two rows w gs ++ [⟨g,wq fi (wst so st fi one two rows w gs g.a),wq fi (wst so st fi one two rows w gs g.b),gbit so st fi one two rows (wst so st fi one two rows w gs) g⟩]
  | [], _ => rfl
  | x :: gs, w => by
    show _ :: trl so st fi one two rows _ (gs ++ [g]) = _ :: (trl so st fi one two rows _ gs ++ _)
    rw [trl_snoc]
    rfl
theorem wst_snoc {so st fi one two:Int} {rows:List Rw} {g:Gm} {gs:List Gm} {w:Wn}:wst so st fi one two rows w (gs ++ [g]) = nxt so st fi one two rows (wst so st fi one two rows w gs) g:=by
  unfold wst
  rw [List.foldl_append]
  rfl
theorem nxt_wb {so st fi one two:Int} {rows:List Rw} {w:Wn} {g:Gm} {i:Nat} (tb:Tb rows) (b:Nb st one two) (h0:0 ≤ g.h) (h2:g.h ≤ 2) (h:∀ x,WB i (wq fi (w x))) (x:Str):WB (i + 1) (wq fi (nxt so st fi one two rows w g x)):=by
  have bb:BB (gbit so st fi one two rows w g):=bb_bt (sh_due tb _ _) b h0 h2
  unfold nxt
  split
  · exact wb_mn (h g.b) bb
  · split
    · exact wb_pl (h g.a) bb
    · exact (h x).mono (by omega)
theorem WsAt.put {H H':Hp} {W:Addr} {n:Nat} {u:Str→Option Q2} (h:WsAt H W n u) {kvs:List (Key × V)} (e:H W = some (.dK kvs)) {x y:Str} (ne:x ≠ y) {p1 p2:Addr} {q1 q2:Q2} (s:Sx W H H') (h1:H' p1 = some (.tup [.int q1.1,.int q1.2])) (h2:H' p2 = some (.tup [.int q2.1,.int q2.2]))
    (e':H' W = some (.dK (putK (putK kvs (Sum.inr x) (.ref p1)) (Sum.inr y) (.ref p2)))):WsAt H' W (n + 2) (fun z=>if z = y then some q2 else if z = x then some q1 else u z):=by
  obtain ⟨kvs', e0, l, a⟩ := h
  rw [e] at e0
  cases e0
  have l1 := length_putK kvs (Sum.inr x) (.ref p1)
  have l2:=length_putK (putK kvs (Sum.inr x) (.ref p1)) (Sum.inr y) (.ref p2)
  refine ⟨_, e', by omega, fun z => ?_⟩
  by_cases c : z = y
  · subst c
    refine .inr ⟨q2, p2, if_pos rfl, ?_, h2⟩
    rw [valV_put, if_pos rfl]
  · by_cases c' : z = x
    · subst c'
      refine .inr ⟨q1,p1,by show (if z = y then _ else if z = z then _ else _) = _; rw [if_neg c,if_pos rfl],?_,h1⟩
      rw [valV_put,if_neg (fun w=>c (Sum.inr.inj w)),valV_put,if_pos rfl]
    · have vz:valV (putK (putK kvs (Sum.inr x) (.ref p1)) (Sum.inr y) (.ref p2)) (Sum.inr z) = valV kvs (Sum.inr z):=by
        rw [valV_put,if_neg (fun w=>c (Sum.inr.inj w)),valV_put,if_neg (fun w=>c' (Sum.inr.inj w))]
      rw [vz]
      show ((if z = y then _ else if z = x then _ else u z) = none∧_) ∨ _
      simp only [if_neg c, if_neg c']
      rcases a z with h | ⟨q, p, h3, h4, h5⟩
      · exact .inl h
      · exact .inr ⟨q,p,h3,h4,s _ _ (fun w=>by rw [w,e] at h5; cases h5) h5⟩
theorem DyAt.put {H H':Hp} {D:Addr} {n:Nat} {v:Str→Option (Nat × Int)} (h:DyAt H D n v) {kvs:List (Key × V)} (e:H D = some (.dK kvs)) {x:Str} {p:Addr} {xs:List Int} {d:Int} (s:Sx D H H') (h1:H' p = some (.lst ((xs ++ [d]).map V.int))) (e':H' D = some (.dK (putK kvs (Sum.inr x) (.ref p)))) :
    DyAt H' D (n + 1) (fun z=>if z = x then some (xs.length + 1,d) else v z):=by
  obtain ⟨kvs', e0, l, a⟩ := h
  rw [e] at e0
  cases e0
  have l1 := length_putK kvs (Sum.inr x) (.ref p)
  refine ⟨_, e', by omega, fun z => ?_⟩
  by_cases c : z = x
  · subst c
    refine .inr ⟨_,d,p,_,if_pos rfl,?_,h1,by rw [List.length_append]; rfl,by simp⟩
    rw [valV_put, if_pos rfl]
  · rw [valV_put, if_neg (fun w => c (Sum.inr.inj w))]
    simp only [if_neg c]
    rcases a z with h | ⟨m, l, p', xs', h3, h4, h5, h6⟩
    · exact .inl h
    · exact .inr ⟨m,l,p',xs',h3,h4,s _ _ (fun w=>by rw [w,e] at h5; cases h5) h5,h6⟩
def off (T:Addr) (H:Hp):Hp:=fun b=>if b = T then none else H b
theorem off_same {T:Addr} {H:Hp}:Same (off T H) H:=fun b o e=>by
  unfold off at e
  split at e
  · cases e
  · exact e
theorem off_smt {T:Addr} {H H1 H2:Hp} (s:Same (off T H) H1) (t:∀ b o,b ≠ T→H1 b = some o→H2 b = some o):Same (off T H) H2:=fun b o e=>by
  have e' := e
  unfold off at e
  split at e
  · cases e
  · rename_i ne
    exact t b o ne (s b o e')
theorem off_none {T b:Addr} {H:Hp} (h:H b = none):off T H b = none:=by
  unfold off
  split
  · rfl
  · exact h
theorem tab_sx {H H':Hp} {P x:Addr} {pos:Pos} {q:Str} (h:TabOk H P pos q) (s:Sx x H H') (hx:(∃ zs,H x = some (.lst zs)) ∨ ∃ kvs,H x = some (.dK kvs)):TabOk H' P pos q:=by
  obtain ⟨ps, h1, h2, h3⟩ := h
  have nP : P ≠ x := fun z => by
    rcases hx with ⟨zs,e⟩ | ⟨kvs,e⟩ <;> (rw [← z,h1] at e; cases e)
  refine ⟨ps, s _ _ nP h1, h2, h3.imp id ?_⟩
  rintro ⟨c, e1, e2⟩
  refine ⟨c, e1, s _ _ (fun z => ?_) e2⟩
  rcases hx with ⟨zs,e⟩ | ⟨kvs,e⟩ <;> (rw [← z,e2] at e; cases e)
def pg (gs:List Gm) (p:List Nat):List Gm:=p.filterMap fun i=>gs[i]?
theorem pg_at {H:Hp} {xs:List V} {gs:List Gm} (a:All2 (GmAt H) xs gs):∀ {p:List Nat},(∀ i ∈ p,i < gs.length)→All2 (GmAt H) (pk xs p) (pg gs p)
  | [], _ => .nil
  | i :: p, h => by
    have hi := h i List.mem_cons_self
    have r:=pg_at a (p:=p) fun j hj=>h j (List.mem_cons_of_mem _ hj)
    have hx : i < xs.length := by rw [a.len]; exact hi
    obtain ⟨g,g1,g2⟩:=a.get (List.getElem?_eq_getElem hx)
    have e1 : pk xs (i :: p) = xs[i] :: pk xs p := by
      unfold pk
      rw [List.map_cons,List.getD_eq_getElem?_getD,List.getElem?_eq_getElem hx]
      rfl
    have e2 : pg gs (i :: p) = g :: pg gs p := by
      unfold pg
      rw [List.filterMap_cons, g1]
    rw [e1, e2]
    exact .cons g2 r
theorem pg_mem {gs:List Gm} {p:List Nat} {g:Gm} (h:g ∈ pg gs p):g ∈ gs:=by
  obtain ⟨i, _, e⟩ := List.mem_filterMap.mp h
  exact List.mem_of_getElem? e
theorem wst_wb {so st fi one two:Int} {rows:List Rw} (tb:Tb rows) (b:Nb st one two) (hf:Bd 40 fi):∀ {gs:List Gm},(∀ g ∈ gs,0 ≤ g.h∧g.h ≤ 2)→∀ {w:Wn} {i:Nat},(∀ x,WB i (wq fi (w x)))→∀ x,WB (i + gs.length) (wq fi (wst so st fi one two rows w gs x))
  | [], _, _, _, h => h
  | g :: gs, hg, w, i, h => fun x => by
    have h1 := hg g List.mem_cons_self
    have:=wst_wb (so:=so) tb b hf (gs:=gs) (fun g hg'=>hg g (List.mem_cons_of_mem _ hg')) (w:=nxt so st fi one two rows w g) (i:=i + 1) (nxt_wb tb b h1.1 h1.2 h) x
    rw [List.length_cons,show i + (gs.length + 1) = i + 1 + gs.length by omega]
    exact this
theorem WsAt.kt {H H':Hp} {W:Addr} {n:Nat} {u:Str→Option Q2} (h:WsAt H W n u) (k:Kt H H') (e:∀ o,H W = some o→H' W = some o):WsAt H' W n u:=by
  obtain ⟨kvs, e0, l, a⟩ := h
  exact ⟨kvs,e _ e0,l,fun x=>(a x).imp id fun ⟨q,p,h1,h2,h3⟩=>⟨q,p,h1,h2,k _ _ h3⟩⟩
theorem DyAt.sx {H H':Hp} {D x:Addr} {n:Nat} {v:Str→Option (Nat × Int)} (h:DyAt H D n v) (s:Sx x H H') (ne:D ≠ x) (hx:∀ (xs:List Int) (l:Int),xs.getLast? = some l→H x ≠ some (.lst (xs.map V.int))):DyAt H' D n v:=by
  obtain ⟨kvs, e0, l, a⟩ := h
  exact ⟨kvs,s _ _ ne e0,l,fun x=>(a x).imp id fun ⟨m,l,p,xs,h1,h2,h3,h4,h5⟩=>⟨m,l,p,xs,h1,h2,s _ _ (fun z=>hx xs l h5 (z ▸ h3)) h3,h4,h5⟩⟩
theorem Sx.kt' {x:Addr} {kvs:List (Key × V)} {H H':Hp} (a:Sx x H H') (h:H x = some (.dK kvs)):Kt H H':=fun p xs e=>a p _ (fun z=>by rw [z,h] at e; cases e) e
theorem Sx.n {x:Addr} {N H H':Hp} (a:Sx x H H') (s:Same N H) (h:N x = none):Same N H':=fun b o e=>a b o (fun z=>by rw [z,h] at e; cases e) (s b o e)
def V2 (w : Wn) (g : Gm) : Nat → Str → Option (Nat × Int)
  | 0 => wV w
  | 1=>fun z=>if z = g.a then some (wnn (w g.a) + 1,g.d) else wV w z
  | _=>fun z=>if z = g.b then some (wnn (w g.b) + 1,g.d) else if z = g.a then some (wnn (w g.a) + 1,g.d) else wV w z
theorem wV_nxt {so st fi one two:Int} {rows:List Rw} {w:Wn} {g:Gm}:wV (nxt so st fi one two rows w g) = V2 w g 2:=by
  funext z
  unfold wV nxt V2
  by_cases c : z = g.b
  · simp only [if_pos c]
    rfl
  · by_cases c' : z = g.a
    · simp only [if_neg c, if_pos c']
      rfl
    · simp only [if_neg c, if_neg c']
      rfl
theorem wU_nxt {so st fi one two:Int} {rows:List Rw} {w:Wn} {g:Gm}:wU (nxt so st fi one two rows w g) = fun z=>if z = g.b then some (mnQ (wq fi (w g.b)) (gbit so st fi one two rows w g)) else if z = g.a then some (plQ (wq fi (w g.a)) (gbit so st fi one two rows w g)) else wU w z:=by
  funext z
  unfold wU nxt
  by_cases c : z = g.b
  · simp only [if_pos c]
    rfl
  · by_cases c' : z = g.a
    · simp only [if_neg c, if_pos c']
      rfl
    · simp only [if_neg c, if_neg c']
theorem len_of {w:Wn} {x:Str} {v:Option (Nat × Int)} (h:v = wV w x) {xs:List Int} (c:(v = none∧xs = []) ∨ ∃ m l,v = some (m,l)∧xs.length = m∧xs.getLast? = some l):xs.length = wnn (w x):=by
  subst h
  rcases c with ⟨h1, rfl⟩ | ⟨m, l, h1, h4, h5⟩
  · have : w x = none := Option.map_eq_none_iff.mp h1
    rw [this]
    rfl
  · obtain ⟨s, hs, e⟩ := Option.map_eq_some_iff.mp h1
    cases e
    rw [hs]
    exact h4
theorem nxt_n {so st fi one two:Int} {rows:List Rw} {w:Wn} {g:Gm} {k:Nat} (h:∀ x,wnn (w x) ≤ k) (x:Str):wnn (nxt so st fi one two rows w g x) ≤ k + 1:=by
  unfold nxt
  split
  · exact Nat.succ_le_succ (h g.b)
  · split
    · exact Nat.succ_le_succ (h g.a)
    · exact Nat.le_succ_of_le (h x)
theorem wst_n {so st fi one two:Int} {rows:List Rw}:∀ {gs:List Gm} {w:Wn} {k:Nat},(∀ x,wnn (w x) ≤ k)→∀ x,wnn (wst so st fi one two rows w gs x) ≤ k + gs.length
  | [], _, _, h => h
  | g :: gs, w, k, h => fun x => by
    have:=wst_n (so:=so) (st:=st) (fi:=fi) (one:=one) (two:=two) (rows:=rows) (gs:=gs) (w:=nxt so st fi one two rows w g) (k:=k + 1) (nxt_n h) x
    rw [List.length_cons,show k + (gs.length + 1) = k + 1 + gs.length by omega]
    exact this
def sp_trail (K:PySem.W.Frag) (ns:List Int):Sp:=fun vs H Q _=>match vs with
  | [.ref r,.ref L]=>∃ (so st fi one two:Int) (rows:List Rw) (gs:List Gm) (xs:List V),(RlAt K (off (T12 K) H) r so st fi one two rows∧Tb rows∧Nb st one two∧Bd 40 fi∧SqL K (off (T12 K) H) L xs∧All2 (GmAt (off (T12 K) H)) xs gs∧gs.length ≤ 31∧(∀ g ∈ gs,(0 ≤ g.h∧g.h ≤ 2)∧g.a ≠ g.b)∧TabOk H (T12 K) lp12 q12) ∧
    ∀ D vs p H',SmT (T12 K) H H'→H D = none→H' D = some (.lst vs)→TabOk H' (T12 K) lp12 q12→Stb (dk gs) gs.length p→All2 (SdAt H') vs (trl so st fi one two rows (fun _=>none) (pg gs p))→Q (.ref D) H'
  | _ => False
theorem sc_trail:FnScope ["rule","games","steps","worths","days","played","step","name"] ["rule","games"] (defScope s_trail):=⟨rfl,rfl,rfl,by decide +kernel,rfl,by decide +kernel,by decide +kernel⟩
theorem ok_trail (d:Dfn K mg "trail" s_trail ["rule","games"]) (er:Errs K mg c_Capped c_Early c_NoTable c_Rested c_Rule)   (c_in_order:Cal P w K mg base "in_order" ["games"] 3 (sp_in_order K ns)) (c_move:Cal P w K mg base "move" ["worths","step"] 4 (sp_move K ns)) (c_next_step:Cal P w K mg base "next_step" ["rule","worths","days","played"] 8 (sp_next_step K ns)):Cal P w K mg base "trail" ["rule","games"] 9 (sp_trail K ns):=by
  refine d.cal (k:=8) sc_trail (fun vs H Q E h=>?_) (fun f cdv A outer s H vs Q E hr h=>?_)
  · match vs, h with
    | [.ref r, .ref L], _ => rfl
  · match vs, h with
    | [.ref r, .ref L], hq0 =>
      obtain ⟨so,st,fi,one,two,rows,gs,xs,⟨hR,tb,b,hf,hL,al,l30,ok,tk⟩,k⟩:=hq0
      refine ⟨_,(@pss_cons _ _ _ _ _ (@ps_set _ _ (2) _ _ _ _ sc_trail.nd rfl (by first | exact Or.inl rfl | exact Or.inr rfl) (@pe_lst _ _ _ _ pa_nil) (by rfl) (by first | exact .inl rfl | exact .inr rfl | assumption)) (@pss_cons _ _ _ _ _ (@ps_set _ _ (3) _ _ _ _ sc_trail.nd rfl (by first | exact Or.inl rfl | exact Or.inr rfl) pe_dnewK (by rfl) (by first | exact .inl rfl | exact .inr rfl | assumption)) (@pss_cons _ _ _ _ _ (@ps_set _ _ (4) _ _ _ _ sc_trail.nd rfl (by first | exact Or.inl rfl | exact Or.inr rfl) pe_dnewK (by rfl) (by first | exact .inl rfl | exact .inr rfl | assumption)) (@pss_cons _ _ _ _ _ (@ps_for _ _ _ _ _ _ _ _ PassesOwn.never rfl (@pi_list _ _ _ _ (@e_call _ _ _ _ _ _ _ _ _ _ _ c_in_order hr (by decide) (by rfl) (@pa_cons _ _ _ _ _ (dv 1) pa_nil (by rfl)) (by decide) (by rfl) (by rfl))) (@pg_name _ _ (5) _ sc_trail.nd rfl (by first | exact Or.inl rfl | exact Or.inr rfl) (by first | exact .inl rfl | exact .inr rfl | assumption)) (@pss_cons _ _ _ _ _ (@ps_set _ _ (6) _ _ _ _ sc_trail.nd rfl (by first | exact Or.inl rfl | exact Or.inr rfl) (@e_call _ _ _ _ _ _ _ _ _ _ _ c_next_step hr (by decide) (by rfl) (@pa_cons _ _ _ _ _ (dv 0) (@pa_cons _ _ _ _ _ (dv 3) (@pa_cons _ _ _ _ _ (dv 4) (@pa_cons _ _ _ _ _ (dv 5) pa_nil (by rfl)) (by rfl)) (by rfl)) (by rfl)) (by decide) (by rfl) (by rfl)) (by rfl) (by first | exact .inl rfl | exact .inr rfl | assumption)) (@pss_cons _ _ _ _ _ (@ps_expr _ _ _ _ (@pe_bm _ _ _ _ _ _ _ _ _ _ _ _ PySem.F.plainAttrs_list PySem.F.slot_list_append PySem.F.type_list_append mt_append (dv 2) (@pa_cons _ _ _ _ _ (dv 6) pa_nil (by rfl)) (by rfl) (by rfl) (by rfl) (by rfl) (by rfl)) (by rfl)) (@pss_cons _ _ _ _ _ (@ps_expr _ _ _ _ (@e_call _ _ _ _ _ _ _ _ _ _ _ c_move hr (by decide) (by rfl) (@pa_cons _ _ _ _ _ (dv 3) (@pa_cons _ _ _ _ _ (dv 6) pa_nil (by rfl)) (by rfl)) (by decide) (by rfl) (by rfl)) (by rfl)) (@pss_one _ _ _ (@ps_for _ _ _ _ _ _ _ _ PassesOwn.never rfl (@pi_tup _ _ _ _ (@pe_slice _ _ _ _ _ _ _ _ _ _ sl_tup (dv 5) (po_some pe_int) (po_some pe_int))) (@pg_name _ _ (7) _ sc_trail.nd rfl (by first | exact Or.inl rfl | exact Or.inr rfl) (by first | exact .inl rfl | exact .inr rfl | assumption)) (@pss_one _ _ _ (@ps_dput _ _ _ _ _ _ _ _ _ (@u1 _ _ hr.units) (dv 4) (dv 7) (@pe_op _ _ _ _ _ _ _ _ o_catL (@pe_dget2 _ _ _ _ _ _ _ _ _ (@u1 _ _ hr.units) (dv 4) (dv 7) (@pe_lst _ _ _ _ pa_nil) ⟨rfl,rfl,rfl,rfl⟩) (@e_lst _ _ _ _ (@pa_cons _ _ _ _ _ (@pe_ix _ _ _ _ _ _ _ i_tup (dv 5) pe_int (fun _ _=>rfl)) pa_nil (by rfl)))) rfl)) (by intro _; rfl)))))) (by intro _; rfl)) (@pss_one _ _ _ (@ps_ret _ _ _ _ (dv 2))))))),?_⟩
      refine ⟨by decide,fun S hS=>fun W hW=>fun D hD=>?_⟩
      have s1 : Same H (upd H S (.lst [])) := same_upd hS
      have s2 := s1.trans (same_upd (o := .dK []) hW)
      have s3 := s2.trans (same_upd (o := .dK []) hD)
      have nWS:W ≠ S:=fun z=>by rw [z,upd_same] at hW; cases hW
      have nDS:D ≠ S:=fun z=>by rw [z,upd_ne (Ne.symm nWS),upd_same] at hD; cases hD
      have nDW:D ≠ W:=fun z=>by rw [z,upd_same] at hD; cases hD
      have eS:upd (upd (upd H S (.lst [])) W (.dK [])) D (.dK []) S = some (.lst []):=by rw [upd_ne (Ne.symm nDS),upd_ne (Ne.symm nWS),upd_same]
      have eW:upd (upd (upd H S (.lst [])) W (.dK [])) D (.dK []) W = some (.dK []):=by rw [upd_ne (Ne.symm nDW),upd_same]
      have eD:upd (upd (upd H S (.lst [])) W (.dK [])) D (.dK []) D = some (.dK []):=upd_same
      have hW0 : H W = none := none_back s1 hW
      have hD0 : H D = none := none_back s2 hD
      generalize upd (upd (upd H S (.lst [])) W (.dK [])) D (.dK []) = H3 at s3 eS eW eD
      clear s1 s2 hW hD
      obtain ⟨N, hN⟩ : ∃ N, N = off (T12 K) H := ⟨_, rfl⟩
      have sN : Same N H := hN ▸ off_same
      have sN3 := sN.trans s3
      have nS : N S = none := hN ▸ off_none hS
      have nW : N W = none := hN ▸ off_none hW0
      have nD : N D = none := hN ▸ off_none hD0
      rw [← hN] at hR hL al
      refine ⟨gs,xs,⟨sN3.seq hL,al.imp fun v g r=>gm_up v g _ _ (kt_of sN3) r,by omega,tk.up s3⟩,fun Dl H4 p sm nDl eDl tk4 stb=>?_⟩
      obtain ⟨ps, tt, _⟩ := tk.up s3
      have ne4:∀ {b:Addr} {o:HO},H3 b = some o→(∀ ps,o ≠ .tbl ps)→H4 b = some o:=fun e c=>sm _ _ (fun z=>c ps (by rw [z,tt] at e; exact (Option.some.inj e).symm)) e
      have sN4 : Same N H4 := by
        rw [hN]
        exact off_smt (hN ▸ sN3) sm
      have eS4 := ne4 eS (fun _ => nofun)
      have eW4 := ne4 eW (fun _ => nofun)
      have eD4 := ne4 eD (fun _ => nofun)
      have dS:Dl ≠ S:=fun z=>by rw [z,eS] at nDl; cases nDl
      have dW:Dl ≠ W:=fun z=>by rw [z,eW] at nDl; cases nDl
      have dD:Dl ≠ D:=fun z=>by rw [z,eD] at nDl; cases nDl
      have aG:All2 (GmAt N) (pk xs p) (pg gs p):=pg_at al fun i hi=>stb.2.1 i hi
      have okG:∀ g ∈ pg gs p,(0 ≤ g.h∧g.h ≤ 2)∧g.a ≠ g.b:=fun g hg=>ok g (pg_mem hg)
      have lG : (pg gs p).length ≤ 31 := by
        have := aG.len
        have z:(pk xs p).length = p.length:=by unfold pk; rw [List.length_map]
        have := stb.1
        omega
      generalize hG : pg gs p = G at aG okG lG
      have w0:∀ x,WB 0 (wq fi ((fun _=>none:Wn) x)):=fun x=>⟨(by decide:(0:Int) < 1),hf.mono (by decide),bd_lit rfl⟩
      refine ⟨Dl,rfl,⟨_,SqL.of eDl⟩,for_list (K:=K) (a:=Dl) (xs:=pk xs p) (fun i σ H'=>∃ (vs:List V) (o5 o6 o7:Option V),σ = [some (.ref r),some (.ref L),some (.ref S),some (.ref W),some (.ref D),o5,o6,o7]∧Same N H'∧TabOk H' (T12 K) lp12 q12∧H' Dl = some (.lst (pk xs p))∧H' S = some (.lst vs)∧All2 (SdAt H') vs (trl so st fi one two rows (fun _=>none) (G.take i))∧WsAt H' W (2 * i) (wU (wst so st fi one two rows (fun _=>none) (G.take i)))∧DyAt H' D (2 * i) (wV (wst so st fi one two rows (fun _=>none) (G.take i)))) ?_ (fun i σ H' _ ⟨_,_,_,_,_,_,_,e,_⟩=>SqL.of e) ?_ ?_⟩
      · exact ⟨[],none,none,none,rfl,sN4,tk4,eDl,eS4,.nil,⟨[],eW4,Nat.zero_le _,fun x=>.inl ⟨rfl,rfl⟩⟩,⟨[],eD4,Nat.zero_le _,fun x=>.inl ⟨rfl,rfl⟩⟩⟩
      · rintro i v σ H5 hv ⟨vs,o5,o6,o7,rfl,sN5,tk5,eDl5,eS5,aS5,ws,dy⟩
        obtain ⟨g, hg, pg', rfl, hpg⟩ := aG.get hv
        obtain ⟨⟨h0,h2⟩,ab⟩:=okG g (List.mem_of_getElem? hg)
        have il:i < G.length:=(List.getElem?_eq_some_iff.mp hg).1
        have tk':G.take (i + 1) = G.take i ++ [g]:=by rw [List.take_add_one,hg]; rfl
        have wb:∀ x,WB i (wq fi (wst so st fi one two rows (fun _=>none) (G.take i) x)):=fun x=>by
          have:=wst_wb (so:=so) tb b hf (gs:=G.take i) (fun g hg=>(okG g (List.mem_of_mem_take hg)).1) w0 x
          rw [List.length_take,Nat.zero_add,Nat.min_eq_left (Nat.le_of_lt il)] at this
          exact this
        have wn:∀ x,wnn (wst so st fi one two rows (fun _=>none) (G.take i) x) ≤ 31:=fun x=>by
          have:=wst_n (so:=so) (st:=st) (fi:=fi) (one:=one) (two:=two) (rows:=rows) (gs:=G.take i) (w:=fun _=>none) (k:=0) (fun _=>Nat.le_refl _) x
          rw [List.length_take] at this
          omega
        rw [tk', trl_snoc, wst_snoc]
        generalize wst so st fi one two rows (fun _=>none) (G.take i) = w at ws dy wb wn
        refine ⟨so,st,fi,one,two,rows,w,2 * i,g,⟨hR.up sN5,tb,b,ws,dy,sN5 _ _ hpg,h0,h2,(wb _).sq (by omega),(wb _).sq (by omega)⟩,fun sv H6 s6 sd=>?_⟩
        have eS6 := s6 _ _ eS5
        have lvs : vs.length ≤ 31 := by
          have := aS5.len
          have z:∀ (w:Wn) (l:List Gm),(trl so st fi one two rows w l).length = l.length:=fun w l=>by
            induction l generalizing w with
            | nil => rfl
            | cons g l ih=>show (trl so st fi one two rows _ l).length + 1 = _; rw [ih]; rfl
          rw [this, z, List.length_take]
          omega
        refine ⟨.inl ⟨rfl,_,SqL.of eS6⟩,S,vs,sv,rfl,rfl,eS6,Nat.lt_of_le_of_lt lvs (by decide),?_⟩
        have ws6 := ws.up s6
        have dy6 := dy.up s6
        have noS:∀ (xs:List Int) (l:Int),xs.getLast? = some l→H6 S ≠ some (.lst (xs.map V.int)):=fun xs l hl z=>by
          rw [eS6] at z
          cases z
          cases xs with
          | nil => cases hl
          | cons y xs =>
            obtain ⟨_,_,t,_,_,_,_,e,_⟩:=aS5.get (show ((y :: xs).map V.int)[0]? = some (.int y) from rfl)
            cases e
        have x7:Sx S H6 (upd H6 S (.lst (vs ++ [sv]))):=Sx.upd
        have kt7:Kt H6 (upd H6 S (.lst (vs ++ [sv]))):=kt_upd eS6
        have sN7:Same N (upd H6 S (.lst (vs ++ [sv]))):=same_app' (sN5.trans s6) nS
        have tk7:TabOk (upd H6 S (.lst (vs ++ [sv]))) (T12 K) lp12 q12:=tab_sx (tk5.up s6) x7 (.inl ⟨_,eS6⟩)
        have eDl7:upd H6 S (.lst (vs ++ [sv])) Dl = some (.lst (pk xs p)):=x7 _ _ dS (s6 _ _ eDl5)
        have eS7:upd H6 S (.lst (vs ++ [sv])) S = some (.lst (vs ++ [sv])):=upd_same
        have aS7:All2 (SdAt (upd H6 S (.lst (vs ++ [sv])))) (vs ++ [sv]) (trl so st fi one two rows (fun _=>none) (G.take i) ++ [⟨g,wq fi (w g.a),wq fi (w g.b),gbit so st fi one two rows w g⟩]):=(aS5.imp fun v g r=>sd_up v g _ _ ((kt_of s6).trans kt7) r).snoc (sd_up _ _ _ _ kt7 sd)
        have ws7 := ws6.kt kt7 fun o e => x7 _ _ nWS e
        have dy7 := dy6.sx x7 nDS noS
        have sd7 := sd_up _ _ _ _ kt7 sd
        generalize upd H6 S (.lst (vs ++ [sv])) = H7 at sN7 tk7 eDl7 eS7 aS7 ws7 dy7 sd7
        clear noS
        have bb:BB (gbit so st fi one two rows w g):=bb_bt (sh_due tb _ _) b h0 h2
        have ws7' := ws7
        obtain ⟨kvs, eW7, lk, _⟩ := ws7'
        refine ⟨kvs,⟨g,wq fi (w g.a),wq fi (w g.b),gbit so st fi one two rows w g⟩,⟨eW7,by omega,sd7,(wb _).sq (by omega),(wb _).sq (by omega),bb.sq (by decide)⟩,fun p1 p2 H8 s8 m1 m2 q1 q2 eW8=>?_⟩
        have ws8 := ws7.put eW7 ab s8 q1 q2 eW8
        have kt8 := s8.kt' eW7
        have sN8 := s8.n sN7 nW
        have tk8 := tab_sx tk7 s8 (.inr ⟨_, eW7⟩)
        have eDl8 := s8 _ _ dW eDl7
        have eS8 := s8 _ _ (Ne.symm nWS) eS7
        have aS8 := aS7.imp fun v g r => sd_up v g _ _ kt8 r
        have dy8:=dy7.sx s8 nDW (fun xs l _ z=>by rw [eW7] at z; cases z)
        clear kt8 s8
        refine ⟨_,rfl,_,rfl,pg',_,rfl,SqT.of (sN8 _ _ hpg),(by show ¬ (HT.sIx 5 0 (some 1) = 0∧HT.sIx 5 5 (some 3) = 5); decide),fun t ht=>?_⟩
        rw [show cutV [V.int g.d,V.str g.a,V.str g.b,V.int g.h,V.int g.s] (some 1) (some 3) = [V.str g.a,V.str g.b] from rfl]
        have s9:Same H8 (upd H8 t (.tup [.str g.a,.str g.b])):=same_upd ht
        have e9:upd H8 t (.tup [.str g.a,.str g.b]) t = some (.tup [.str g.a,.str g.b]):=upd_same
        have ws8':WsAt H8 W (2 * i + 2) (wU (nxt so st fi one two rows w g)):=by
          rw [wU_nxt]
          exact ws8
        refine ⟨t,rfl,⟨_,SqT.of e9⟩,for_tup (K:=K) (a:=t) (xs:=[.str g.a,.str g.b]) (fun j σ H'=>∃ o7:Option V,σ = [some (.ref r),some (.ref L),some (.ref S),some (.ref W),some (.ref D),some (.ref pg'),some sv,o7]∧Same N H'∧TabOk H' (T12 K) lp12 q12∧H' t = some (.tup [.str g.a,.str g.b])∧H' Dl = some (.lst (pk xs p))∧H' S = some (.lst (vs ++ [sv]))∧All2 (SdAt H') (vs ++ [sv]) (trl so st fi one two rows (fun _=>none) (G.take i) ++ [⟨g,wq fi (w g.a),wq fi (w g.b),gbit so st fi one two rows w g⟩])∧WsAt H' W (2 * i + 2) (wU (nxt so st fi one two rows w g))∧DyAt H' D (2 * i + j) (V2 w g j)) ⟨o7,rfl,sN8.trans s9,tk8.up s9,e9,s9 _ _ eDl8,s9 _ _ eS8,aS8.imp fun v g r=>sd_up v g _ _ (kt_of s9) r,ws8'.up s9,dy8.up s9⟩ (fun j σ H' _ ⟨_,_,_,_,e,_⟩=>SqT.of e) ?_ ?_⟩
        · rintro j u σ H10 hu ⟨o7',rfl,sNa,tka,ea,eDla,eSa,aSa,wsa,dya⟩
          obtain ⟨x,rfl,jx⟩:∃ x,u = .str x∧((j = 0∧x = g.a) ∨ (j = 1∧x = g.b)):=by
            match j, hu with
            | 0,hu=>cases hu; exact ⟨_,rfl,.inl ⟨rfl,rfl⟩⟩
            | 1,hu=>cases hu; exact ⟨_,rfl,.inr ⟨rfl,rfl⟩⟩
          have dya' := dya
          obtain ⟨kva, eDa, lka, _⟩ := dya'
          refine ⟨D,rfl,.inl ⟨_,.inl eDa⟩,by decide,fun T0 hT0=>?_⟩
          have sb:Same H10 (upd H10 T0 (.lst [])):=same_upd hT0
          have eb:upd H10 T0 (.lst []) T0 = some (.lst []):=upd_same
          generalize upd H10 T0 (.lst []) = H11 at sb eb
          obtain ⟨o,pl,ys,dg,gd,ey,cy⟩:=(dya.up sb).get' x eb
          refine ⟨o, dg, ?_⟩
          rw [gd]
          refine ⟨_,(sNa.trans sb) _ _ hpg,fun Lq H12 sc ec=>?_⟩
          have ly : ys.length = wnn (w x) := by
            refine len_of ?_ cy
            rcases jx with ⟨rfl, rfl⟩ | ⟨rfl, rfl⟩
            · rfl
            · exact if_neg (Ne.symm ab)
          have y60 : ys.length ≤ 900 := by
            have := wn x
            omega
          refine ⟨_,_,sc _ _ ey,ec,by rw [List.length_map]; show ys.length + 1 ≤ 1000; omega,fun pn H13 sd' ed=>?_⟩
          have ed:H13 pn = some (.lst ((ys ++ [g.d]).map V.int)):=by
            rw [ed, List.map_append]
            rfl
          have sbd := sb.trans (sc.trans sd')
          have eDd := sbd _ _ eDa
          refine ⟨D,_,rfl,DPut.k (k:=Sum.inr x) eDd ?_,?_⟩
          · exact Nat.lt_of_le_of_lt (show _ ≤ 100 by omega) (by decide)
          have xe:Sx D H13 (upd H13 D (.dK (putK kva (Sum.inr x) (.ref pn)))):=Sx.upd
          have npn:pn ≠ D:=fun z=>by rw [z,eDd] at ed; cases ed
          have kte := xe.kt' eDd
          have dye:=(dya.up sbd).put eDd xe (by rw [upd_ne npn]; exact ed) upd_same
          refine ⟨_,rfl,xe.n (sNa.trans sbd) nD,tab_sx (tka.up sbd) xe (.inr ⟨_,eDd⟩),kte _ _ (sbd _ _ ea),xe _ _ dD (sbd _ _ eDla),xe _ _ (Ne.symm nDS) (sbd _ _ eSa),aSa.imp fun v g r=>sd_up v g _ _ ((kt_of sbd).trans kte) r,(wsa.up sbd).kt kte fun o e=>xe _ _ (Ne.symm nDW) e,?_⟩
          rw [ly] at dye
          rcases jx with ⟨rfl, rfl⟩ | ⟨rfl, rfl⟩
          · exact dye
          · exact dye
        · rintro σ H10 ⟨o7',rfl,sNa,tka,ea,eDla,eSa,aSa,wsa,dya⟩
          refine ⟨vs ++ [sv],_,_,_,rfl,sNa,tka,eDla,eSa,aSa,wsa,?_⟩
          rw [wV_nxt]
          exact dya
      · rintro σ H5 ⟨vs,o5,o6,o7,rfl,sN5,tk5,eDl5,eS5,aS5,ws,dy⟩
        rw [aG.len, List.take_length, ← hG] at aS5
        exact k S vs p H5 (fun b o ne e=>sN5 b o (by rw [hN]; unfold off; rw [if_neg ne]; exact e)) hS eS5 tk5 stb aS5
theorem off_at {T b:Addr} {H:Hp} {o:HO} {ps:Array Value} (t:H T = some (.tbl ps)) (e:H b = some o) (n:∀ ps,o ≠ .tbl ps):off T H b = some o:=by
  unfold off
  rw [if_neg fun z => ?_]
  · exact e
  · rw [z, t] at e
    exact n ps (Option.some.inj e).symm
theorem off_sq {K:PySem.W.Frag} {T a:Addr} {H:Hp} {xs:List V} {ps:Array Value} (t:H T = some (.tbl ps)) (h:SqL K H a xs):SqL K (off T H) a xs:=by
  rcases h with h | h
  · refine .inl ?_
    rcases h with h | ⟨ob, h⟩
    · exact .inl (off_at t h fun _ => nofun)
    · exact .inr ⟨ob, off_at t h fun _ => nofun⟩
  · exact .inr h
theorem off_kt {T:Addr} {H:Hp} {ps:Array Value} (t:H T = some (.tbl ps)):Kt H (off T H):=fun p xs e=>off_at t e fun _=>nofun
theorem off_rl {K:PySem.W.Frag} {T r:Addr} {H:Hp} {ps:Array Value} {so st fi one two:Int} {rows:List Rw} (t:H T = some (.tbl ps)):RlAt K H r so st fi one two rows→RlAt K (off T H) r so st fi one two rows:=fun ⟨C,dx,fs,T',e,kn,f,vs,h1,h2⟩=>⟨C,dx,fs,T',off_at t e fun _=>nofun,kn,f,vs,off_sq t h1,h2.imp fun v g r=>ro_up v g _ _ (off_kt t) r⟩
theorem off_off {T:Addr} {H H':Hp} (s:Same (off T H) H'):Same (off T H) (off T H'):=fun b o e=>by
  have e' := s b o e
  unfold off at e ⊢
  split at e
  · cases e
  · rename_i ne
    rw [if_neg ne]
    exact e'
theorem ints4 {ys:List V} (l:ys.length = 4) (h:∀ y ∈ ys,∃ c:Int,y = .int c∧0 ≤ c∧c ≤ 1000000):∃ a b c d:Int,ys = [.int a,.int b,.int c,.int d]∧(0 ≤ a∧a ≤ 1000000)∧(0 ≤ b∧b ≤ 1000000)∧(0 ≤ c∧c ≤ 1000000)∧0 ≤ d∧d ≤ 1000000:=by
  match ys, l with
  | [x, y, z, w], _ =>
    obtain ⟨a, rfl, a1⟩ := h x (by simp)
    obtain ⟨b, rfl, b1⟩ := h y (by simp)
    obtain ⟨c, rfl, c1⟩ := h z (by simp)
    obtain ⟨d, rfl, d1⟩ := h w (by simp)
    exact ⟨a, b, c, d, rfl, a1, b1, c1, d1⟩
structure GsOk (nm : List Str) (gs : List Gm) : Prop where
  ok : ∀ g ∈ gs, (0 ≤ g.h ∧ g.h ≤ 2) ∧ g.a ≠ g.b
  mem : ∀ g ∈ gs, g.a ∈ nm ∧ g.b ∈ nm
theorem trl_app {so st fi one two:Int} {rows:List Rw} {m:List Gm}:∀ {l:List Gm} {w:Wn},trl so st fi one two rows w (l ++ m) = trl so st fi one two rows w l ++ trl so st fi one two rows (wst so st fi one two rows w l) m
  | [], _ => rfl
  | x :: l, w => by
    show _ :: trl so st fi one two rows _ (l ++ m) = _ :: (trl so st fi one two rows _ l ++ _)
    rw [trl_app]
    rfl
theorem trl_len {so st fi one two:Int} {rows:List Rw}:∀ {l:List Gm} {w:Wn},(trl so st fi one two rows w l).length = l.length
  | [], _ => rfl
  | x :: l, w => congrArg (· + 1) trl_len
theorem trl_get {so st fi one two:Int} {rows:List Rw} {w:Wn} {G:List Gm} {i:Nat} {g:Gm} (h:G[i]? = some g):(trl so st fi one two rows w G)[i]? = some ⟨g,wq fi (wst so st fi one two rows w (G.take i) g.a),wq fi (wst so st fi one two rows w (G.take i) g.b),gbit so st fi one two rows (wst so st fi one two rows w (G.take i)) g⟩:=by
  obtain ⟨hi, rfl⟩ := List.getElem?_eq_some_iff.mp h
  have e : G = G.take i ++ G[i] :: G.drop (i + 1) := by
    rw [← List.drop_eq_getElem_cons hi,List.take_append_drop]
  have l:(trl so st fi one two rows w (G.take i)).length = i:=by rw [trl_len,List.length_take]; omega
  have z:trl so st fi one two rows w G = trl so st fi one two rows w (G.take i) ++ trl so st fi one two rows (wst so st fi one two rows w (G.take i)) (G[i] :: G.drop (i + 1)):=by
    rw [← trl_app, ← e]
  rw [z,List.getElem?_append_right (by omega),l,Nat.sub_self]
  rfl
def NqAt (H:Hp) (v:V) (x:Str × Q2):Prop:=∃ t p,v = .ref t∧H t = some (.tup [.str x.1,.ref p])∧H p = some (.tup [.int x.2.1,.int x.2.2])
theorem nq_up (v:V) (x:Str × Q2) (H H':Hp) (k:Kt H H') (h:NqAt H v x):NqAt H' v x:=by
  obtain ⟨t, p, e, h0, h1⟩ := h
  exact ⟨t, p, e, k _ _ h0, k _ _ h1⟩
def WkAt (H:Hp) (W:Addr) (l:List Str):Prop:=∃ kvs,H W = some (.dK kvs)∧kvs.map (·.1) = l.map Sum.inr∧l.Nodup
def pls (gs:List Gm) (x:Str):Prop:=∃ g ∈ gs,x = g.a ∨ x = g.b
theorem pls_snoc {gs:List Gm} {g:Gm} {x:Str}:pls (gs ++ [g]) x ↔ (pls gs x ∨ x = g.a) ∨ x = g.b:=by
  constructor
  · rintro ⟨g', h, c⟩
    rcases List.mem_append.mp h with h | h
    · exact .inl (.inl ⟨g', h, c⟩)
    · cases List.mem_singleton.mp h
      exact c.imp .inr id
  · rintro ((⟨g', h, c⟩ | h) | h)
    · exact ⟨g', List.mem_append_left _ h, c⟩
    · exact ⟨g,List.mem_append_right _ (List.mem_singleton.mpr rfl),.inl h⟩
    · exact ⟨g,List.mem_append_right _ (List.mem_singleton.mpr rfl),.inr h⟩
theorem pg_perm {gs:List Gm} {p:List Nat} (h:Stb (dk gs) gs.length p) {g:Gm}:g ∈ pg gs p ↔ g ∈ gs:=by
  refine ⟨pg_mem, fun hg => ?_⟩
  obtain ⟨i, hi, rfl⟩ := List.getElem_of_mem hg
  refine List.mem_filterMap.mpr ⟨i,((stb_rng' h).mem_iff).mpr (List.mem_range.mpr hi),List.getElem?_eq_getElem hi⟩
theorem wst_none {so st fi one two:Int} {rows:List Rw}:∀ {gs:List Gm} {w:Wn} {x:Str},¬ pls gs x→wst so st fi one two rows w gs x = w x
  | [], _, _, _ => rfl
  | g :: gs, w, x, h => by
    have h1:¬ pls gs x:=fun ⟨g',hg,c⟩=>h ⟨g',List.mem_cons_of_mem _ hg,c⟩
    have h2:x ≠ g.a:=fun c=>h ⟨g,List.mem_cons_self,.inl c⟩
    have h3:x ≠ g.b:=fun c=>h ⟨g,List.mem_cons_self,.inr c⟩
    show wst so st fi one two rows (nxt so st fi one two rows w g) gs x = _
    rw [wst_none h1]
    unfold nxt
    rw [if_neg h3, if_neg h2]
theorem nxt_some {so st fi one two:Int} {rows:List Rw} {w:Wn} {g:Gm} {x:Str} (h:(w x).isSome ∨ x = g.a ∨ x = g.b):(nxt so st fi one two rows w g x).isSome:=by
  unfold nxt
  by_cases c : x = g.b
  · rw [if_pos c]
    rfl
  · rw [if_neg c]
    by_cases c' : x = g.a
    · rw [if_pos c']
      rfl
    · rw [if_neg c']
      rcases h with h | h | h
      · exact h
      · exact absurd h c'
      · exact absurd h c
theorem wst_some {so st fi one two:Int} {rows:List Rw}:∀ {gs:List Gm} {w:Wn} {x:Str},(w x).isSome ∨ pls gs x→(wst so st fi one two rows w gs x).isSome
  | [], _, _, h => by
    rcases h with h | ⟨g, h, _⟩
    · exact h
    · cases h
  | g :: gs, w, x, h => by
    refine wst_some (gs:=gs) (w:=nxt so st fi one two rows w g) ?_
    rcases h with h | ⟨g', h, c⟩
    · exact .inl (nxt_some (.inl h))
    · rcases List.mem_cons.mp h with rfl | h
      · exact .inl (nxt_some (.inr c))
      · exact .inr ⟨g', h, c⟩
theorem all2_nq {H:Hp} {f:Str→Q2}:∀ {l:List Str} {ys:List V},All2 (fun x y=>NqAt H y (x,f x)) l ys→All2 (NqAt H) ys (l.map fun x=>(x,f x))
  | _, _, .nil => .nil
  | _, _, .cons h t => .cons h (all2_nq t)
theorem a2_strs45:∀ (l:List Str),All2 (fun v m=>v = V.str m) (l.map V.str) l
  | [] => .nil
  | _ :: l => .cons rfl (a2_strs45 l)
def sp_running (K:PySem.W.Frag) (ns:List Int):Sp:=fun vs H Q _=>match vs with
  | [.ref r,.ref L]=>∃ (so st fi one two:Int) (rows:List Rw) (gs:List Gm) (xs:List V),(RlAt K (off (T12 K) H) r so st fi one two rows∧Tb rows∧Nb st one two∧Bd 40 fi∧SqL K (off (T12 K) H) L xs∧All2 (GmAt (off (T12 K) H)) xs gs∧gs.length ≤ 31∧(∀ g ∈ gs,(0 ≤ g.h∧g.h ≤ 2)∧g.a ≠ g.b)∧TabOk H (T12 K) lp12 q12) ∧
    ∀ D vs p H',SmT (T12 K) H H'→H D = none→H' D = some (.lst vs)→TabOk H' (T12 K) lp12 q12→Stb (dk gs) gs.length p→All2 (NqAt H') vs ((plr gs).map fun x=>(x,wq fi (wst so st fi one two rows (fun _=>none) (pg gs p) x)))→Q (.ref D) H'
  | _ => False
theorem sc_running:FnScope ["rule","games","worths","step"] ["rule","games"] (defScope s_running):=⟨rfl,rfl,rfl,by decide +kernel,rfl,by decide +kernel,by decide +kernel⟩
theorem ok_running (d:Dfn K mg "running" s_running ["rule","games"]) (er:Errs K mg c_Capped c_Early c_NoTable c_Rested c_Rule) (n_sorted:mg "sorted" = none)  (c_trail:Cal P w K mg base "trail" ["rule","games"] 9 (sp_trail K ns)) (c_move:Cal P w K mg base "move" ["worths","step"] 4 (sp_move K ns)):Cal P w K mg base "running" ["rule","games"] 10 (sp_running K ns):=by
  refine d.cal (k:=9) sc_running (fun vs H Q E h=>?_) (fun f cdv A outer s H vs Q E hr h=>?_)
  · match vs, h with
    | [.ref r, .ref L], _ => rfl
  · match vs, h with
    | [.ref r, .ref L], hq0 =>
      obtain ⟨so,st,fi,one,two,rows,gs,xs,⟨hR,tb,b,hf,hL,al,l30,ok,tk⟩,k⟩:=hq0
      refine ⟨_,(@pss_cons _ _ _ _ _ (@ps_set _ _ (2) _ _ _ _ sc_running.nd rfl (by first | exact Or.inl rfl | exact Or.inr rfl) pe_dnewK (by rfl) (by first | exact .inl rfl | exact .inr rfl | assumption)) (@pss_cons _ _ _ _ _ (@ps_for _ _ _ _ _ _ _ _ PassesOwn.never rfl (@pi_list _ _ _ _ (@e_call _ _ _ _ _ _ _ _ _ _ _ c_trail hr (by decide) (by rfl) (@pa_cons _ _ _ _ _ (dv 0) (@pa_cons _ _ _ _ _ (dv 1) pa_nil (by rfl)) (by rfl)) (by decide) (by rfl) (by rfl))) (@pg_name _ _ (3) _ sc_running.nd rfl (by first | exact Or.inl rfl | exact Or.inr rfl) (by first | exact .inl rfl | exact .inr rfl | assumption)) (@pss_one _ _ _ (@ps_expr _ _ _ _ (@e_call _ _ _ _ _ _ _ _ _ _ _ c_move hr (by decide) (by rfl) (@pa_cons _ _ _ _ _ (dv 2) (@pa_cons _ _ _ _ _ (dv 3) pa_nil (by rfl)) (by rfl)) (by decide) (by rfl) (by rfl)) (by rfl))) (by intro _; rfl)) (@pss_one _ _ _ (@ps_ret _ _ _ _ (@e_compN _ _ _ _ _ _ _ _ _ _ ["name"] ["worths"] [2] rfl (@pi_list _ _ _ _ (@pe_callB _ _ _ _ _ _ _ _ _ c_sortD (by rfl) n_sorted (by decide +kernel) (@pa_cons _ _ _ _ _ (dv 2) pa_nil (by rfl)) (by decide) (by decide) (by rfl) (by rfl))) (fun C s H fp=>(@pg_name _ _ (0) _ (show List.Nodup [("name":Str),("worths":Str)] by decide +kernel) rfl (by first | exact Or.inl rfl | exact Or.inr rfl) (by first | exact .inl rfl | exact .inr rfl | assumption))) (fun C s H fp=>(@e_tup _ _ _ _ _ (@pa_cons _ _ _ _ _ (dv 0) (@pa_cons _ _ _ _ _ (@pe_dget _ _ _ _ _ _ (@u1 _ _ hr.units) (dv 1) (dv 0) (fun _ _=>rfl)) pa_nil (by rfl)) (by rfl)))) rfl rfl (by decide +kernel) (by decide +kernel) (by rfl) ⟨rfl,True.intro⟩ ⟨⟨rfl,rfl,rfl,rfl⟩,True.intro⟩ (by intro _; rfl)))))),?_⟩
      refine fun W hW => ?_
      have s1 : Same H (upd H W (.dK [])) := same_upd hW
      have eW:upd H W (.dK []) W = some (.dK []):=upd_same
      generalize upd H W (.dK []) = H1 at s1 eW
      obtain ⟨N, hN⟩ : ∃ N, N = off (T12 K) H := ⟨_, rfl⟩
      have sN : Same N H := hN ▸ off_same
      have sN1 := sN.trans s1
      have nW : N W = none := hN ▸ off_none hW
      rw [← hN] at hR hL al
      have tk1 := tk.up s1
      obtain ⟨ps, tt, _⟩ := id tk1
      have sO : Same N (off (T12 K) H1) := by
        rw [hN] at sN1 ⊢
        exact off_off sN1
      refine ⟨so,st,fi,one,two,rows,gs,xs,⟨hR.up sO,tb,b,hf,sO.seq hL,al.imp fun v g r=>gm_up v g _ _ (kt_of sO) r,l30,ok,tk1⟩,fun F vs p H2 sm nF eF tk2 stb aF=>?_⟩
      have ne2:∀ {b:Addr} {o:HO},H1 b = some o→(∀ ps,o ≠ .tbl ps)→H2 b = some o:=fun e c=>sm _ _ (fun z=>c ps (by rw [z,tt] at e; exact (Option.some.inj e).symm)) e
      have sN2 : Same N H2 := by
        rw [hN]
        exact off_smt (hN ▸ sN1) sm
      have eW2 := ne2 eW (fun _ => nofun)
      have dF:F ≠ W:=fun z=>by rw [z,eW] at nF; cases nF
      have mG:∀ x,pls (pg gs p) x ↔ pls gs x:=fun x=>⟨fun ⟨g,h,c⟩=>⟨g,(pg_perm stb).mp h,c⟩,fun ⟨g,h,c⟩=>⟨g,(pg_perm stb).mpr h,c⟩⟩
      have okG:∀ g ∈ pg gs p,(0 ≤ g.h∧g.h ≤ 2)∧g.a ≠ g.b:=fun g hg=>ok g (pg_mem hg)
      have lG : (pg gs p).length ≤ 31 := by
        have := (pg_at al fun i hi => stb.2.1 i hi).len
        have z:(pk xs p).length = p.length:=by unfold pk; rw [List.length_map]
        have := stb.1
        omega
      have k := k (p := p)
      generalize hG : pg gs p = G at aF okG lG mG
      have w0:∀ x,WB 0 (wq fi ((fun _=>none:Wn) x)):=fun x=>⟨(by decide:(0:Int) < 1),hf.mono (by decide),bd_lit rfl⟩
      have lF:vs.length = G.length:=by rw [aF.len,trl_len]
      refine ⟨F,rfl,⟨_,SqL.of eF⟩,for_list (K:=K) (a:=F) (xs:=vs) (fun i σ H'=>∃ (l:List Str) (o3:Option V),σ = [some (.ref r),some (.ref L),some (.ref W),o3]∧Same N H'∧TabOk H' (T12 K) lp12 q12∧H' F = some (.lst vs)∧All2 (SdAt H') vs (trl so st fi one two rows (fun _=>none) G)∧WkAt H' W l∧(∀ x,x ∈ l ↔ pls (G.take i) x)∧WsAt H' W (2 * i) (wU (wst so st fi one two rows (fun _=>none) (G.take i)))) ?_ (fun i σ H' _ ⟨_,_,_,_,_,e,_⟩=>SqL.of e) ?_ ?_⟩
      · exact ⟨[],none,rfl,sN2,tk2,eF,aF,⟨[],eW2,rfl,.nil⟩,fun x=>⟨fun h=>by (cases h),fun ⟨g,h,_⟩=>by (cases h)⟩,⟨[],eW2,Nat.zero_le _,fun x=>.inl ⟨rfl,rfl⟩⟩⟩
      · rintro i v σ H3 hv ⟨l,o3,rfl,sN3,tk3,eF3,aF3,⟨kvs,eW3,ek,nd⟩,ml,ws⟩
        have il : i < G.length := by
          have := (List.getElem?_eq_some_iff.mp hv).1
          omega
        have hg:G[i]? = some G[i]:=List.getElem?_eq_getElem il
        obtain ⟨s, hs, sd⟩ := aF3.get hv
        rw [trl_get hg] at hs
        cases hs
        generalize G[i] = g at hg sd
        obtain ⟨⟨h0,h2⟩,ab⟩:=okG g (List.mem_of_getElem? hg)
        have tk':G.take (i + 1) = G.take i ++ [g]:=by rw [List.take_add_one,hg]; rfl
        have wb:∀ x,WB i (wq fi (wst so st fi one two rows (fun _=>none) (G.take i) x)):=fun x=>by
          have:=wst_wb (so:=so) tb b hf (gs:=G.take i) (fun g hg=>(okG g (List.mem_of_mem_take hg)).1) w0 x
          rw [List.length_take,Nat.zero_add,Nat.min_eq_left (Nat.le_of_lt il)] at this
          exact this
        rw [tk', wst_snoc]
        generalize hw:wst so st fi one two rows (fun _=>none) (G.take i) = w at ws wb sd
        have bb:BB (gbit so st fi one two rows w g):=bb_bt (sh_due tb _ _) b h0 h2
        have lk : kvs.length ≤ 62 := by
          obtain ⟨kvs', e', l', _⟩ := ws
          rw [eW3] at e'
          cases e'
          omega
        refine ⟨kvs,_,⟨eW3,by omega,sd,(wb _).sq (by omega),(wb _).sq (by omega),bb.sq (by decide)⟩,fun p1 p2 H4 s4 m1 m2 q1 q2 eW4=>?_⟩
        have ws4 := ws.put eW3 ab s4 q1 q2 eW4
        have kt4 := s4.kt' eW3
        refine ⟨dd (dd l g.a) g.b,_,rfl,s4.n sN3 nW,tab_sx tk3 s4 (.inr ⟨_,eW3⟩),s4 _ _ dF eF3,aF3.imp fun v g r=>sd_up v g _ _ kt4 r,⟨_,eW4,keys_put (keys_put ek _ _) _ _,nodup_dd (nodup_dd nd)⟩,fun x=>?_,?_⟩
        · rw [mem_dd, mem_dd, ml, pls_snoc]
        · rw [wU_nxt]
          exact ws4
      rintro σ H3 ⟨l,o3,rfl,sN3,tk3,eF3,aF3,⟨kvs,eW3,ek,nd⟩,ml,ws⟩
      rw [lF, List.take_length] at ml ws
      have ll : l.length ≤ 62 := by
        obtain ⟨kvs', e', l', _⟩ := ws
        rw [eW3] at e'
        cases e'
        have := congrArg List.length ek
        rw [List.length_map, List.length_map] at this
        omega
      have el:srt l = plr gs:=inc_ext (inc_srt _) (inc_srt _) fun x=>by
        rw [mem_srt, ml, mG]
        exact mem_plr.symm
      refine ⟨kvs,l,eW3,ek,by omega,nd,fun L0 hL0=>?_⟩
      rw [el]
      have s4:Same H3 (upd H3 L0 (.lst ((plr gs).map V.str))):=same_upd hL0
      have e4:upd H3 L0 (.lst ((plr gs).map V.str)) L0 = some (.lst ((plr gs).map V.str)):=upd_same
      generalize upd H3 L0 (.lst ((plr gs).map V.str)) = H4 at s4 e4
      have lp : (plr gs).length ≤ 62 := by
        rw [← el]
        exact Nat.le_trans (nd_len (inc_nodup (inc_srt _)) fun x hx=>mem_srt.mp hx) ll
      refine ⟨L0,rfl,⟨_,SqL.of e4⟩,comp_abs (fun _ v (x:Str)=>v = V.str x) (fun _ _ _ _ _ h=>h) (fun H x y=>NqAt H y (x,wq fi (wst so st fi one two rows (fun _=>none) G x))) (fun x y H H' k h=>nq_up y _ H H' k h) (by rw [List.length_map]; omega) (SqL.of e4) (a2_strs45 _) ?_ ?_⟩
      · intro v x H5 hM hx s5 P hP
        subst hM
        have s35 := s4.trans s5
        have hx : pls G x := (mG x).mpr (mem_plr.mp hx)
        obtain ⟨kvs', e', _, ws'⟩ := ws
        rw [eW3] at e'
        cases e'
        have hs:=wst_some (so:=so) (st:=st) (fi:=fi) (one:=one) (two:=two) (rows:=rows) (w:=fun _=>none) (.inr hx)
        rcases ws' x with ⟨u1, _⟩ | ⟨q, pp, u1, u2, u3⟩
        · rw [Option.map_eq_none_iff.mp u1] at hs
          cases hs
        · have gx:DGet H5 W (.str x) (some (.ref pp)):=by
            have := DGet.k (k := Sum.inr x) (s35 _ _ eW3)
            rw [u2] at this
            exact this
          obtain ⟨sp,e1,rfl⟩:=Option.map_eq_some_iff.mp u1
          refine ⟨rfl,W,_,rfl,gx,fun T H6 s6 e6=>hP _ _ s6 ⟨T,pp,rfl,e6,?_⟩⟩
          rw [e1]
          exact (s35.trans s6) _ _ u3
      intro D H5 ys s5 n5 e5 a5
      have s35 := s4.trans s5
      have sN5 := sN3.trans s35
      refine k D ys H5 (fun b o ne e=>sN5 b o (by rw [hN]; unfold off; rw [if_neg ne]; exact e)) ?_ e5 (tk3.up s35) stb (by rw [hG]; exact all2_nq a5)
      cases c : H D with
      | none => rfl
      | some o =>
        exfalso
        by_cases z : D = T12 K
        · obtain ⟨ps3, t3, _⟩ := tk3.up s4
          rw [← z, n5] at t3
          cases t3
        · have : N D = some o := by
            rw [hN]
            unfold off
            rw [if_neg z]
            exact c
          rw [none_back (sN3.trans s4) n5] at this
          cases this
def abz : Str := Str.ofString "mnbvcxzlkjhgfdsapoiuytrewq"
def lz:List Nat:=[109,110,98,118,99,120,122,108,107,106,104,103,102,100,115,97,112,111,105,117,121,116,114,101,119,113]
def ltz (n : Int) : Nat := lz.getD (n % 26).toNat 0
theorem abz_get {n:Int} (h0:0 ≤ n % 26) (h1:n % 26 < 26):atI abz.cps.toList (n % 26) = some (ltz n):=by
  have e : abz.cps.toList = lz := by decide +kernel
  obtain ⟨m,hm⟩:∃ m:Nat,n % 26 = m:=⟨_,(Int.toNat_of_nonneg h0).symm⟩
  have l : m < lz.length := by show m < 26; omega
  rw [e, hm]
  refine atI_nat ?_
  unfold ltz
  rw [hm,Int.toNat_natCast,List.getD_eq_getElem?_getD,List.getElem?_eq_getElem l]
  rfl
theorem ltz_lt (n : Int) : ltz n < 123 := by
  have a:∀ m:Nat,m < 26→lz.getD m 0 < 123:=by decide
  have h0:=Int.emod_nonneg n (show (26:Int) ≠ 0 by decide)
  have h1:=Int.emod_lt_of_pos n (show (0:Int) < 26 by decide)
  exact a _ (by omega)
theorem ltz_inj {m n:Int} (h:ltz m = ltz n):m % 26 = n % 26:=by
  have a:∀ i:Nat,i < 26→∀ j:Nat,j < 26→lz.getD i 0 = lz.getD j 0→i = j:=by decide
  have h0:=Int.emod_nonneg m (show (26:Int) ≠ 0 by decide)
  have h1:=Int.emod_lt_of_pos m (show (0:Int) < 26 by decide)
  have h2:=Int.emod_nonneg n (show (26:Int) ≠ 0 by decide)
  have h3:=Int.emod_lt_of_pos n (show (0:Int) < 26 by decide)
  have:=a _ (show (m % 26).toNat < 26 by omega) _ (show (n % 26).toNat < 26 by omega) h
  omega
def bs44 (c:Int):List Nat:=(List.range 8).map fun j:Nat=>ltz (c / (4 + 3 * (0 + (j:Int))))
theorem bs44_len (c : Int) : (bs44 c).length = 8 := rfl
theorem bs44_lt {c:Int}:∀ e ∈ bs44 c,e < 123:=fun e he=>by
  obtain ⟨j, _, rfl⟩ := List.mem_map.mp he
  exact ltz_lt _
def nm44 (c:Int) (at' sz:Nat) (k:Nat):List Nat:=(bs44 c).take at' ++ [ltz (c / 200 + 3 * (k:Int))] ++ ((bs44 c).drop (at' + 1)).take (sz - (at' + 1))
theorem nm44_lt {c:Int} {at' sz k:Nat}:∀ e ∈ nm44 c at' sz k,e < 123:=fun e he=>by
  rcases List.mem_append.mp he with he | he
  · rcases List.mem_append.mp he with he | he
    · exact bs44_lt e (List.mem_of_mem_take he)
    · rw [List.mem_singleton.mp he]
      exact ltz_lt _
  · exact bs44_lt e (List.mem_of_mem_drop (List.mem_of_mem_take he))
theorem nm44_inj {c:Int} {at' sz i j:Nat} (hi:i < 8) (hj:j < 8) (h:nm44 c at' sz i = nm44 c at' sz j):i = j:=by
  unfold nm44 at h
  rw [List.append_assoc, List.append_assoc] at h
  have h := List.append_cancel_left h
  have h:ltz (c / 200 + 3 * (i:Int)) = ltz (c / 200 + 3 * (j:Int)):=by
    have := congrArg (fun l : List Nat => l[0]?) h
    simpa using this
  have h := ltz_inj h
  omega
theorem str_ok {x:Str} (h:∀ e ∈ co x,e < 123):PyData.strOk x = true:=ok_of fun e he=>Nat.lt_trans (h e he) (by decide)
def sp_l_names (K:PySem.W.Frag) (ns:List Int):Sp:=fun vs H Q _=>match vs with
  | [.int c,.int m]=>(0 ≤ m∧m ≤ 8)∧∀ L (nm:List Str) H',Same H H'→H' L = some (.lst (nm.map V.str))→(nm.length:Int) = m→nm.Nodup→(∀ x ∈ nm,PyData.strOk x = true)→Q (.ref L) H'
  | _ => False
theorem sc_l_names:FnScope ["_law_cell_here","_law_many","_law_letters","_law_base","_law_size","_law_at","_law_names_here","_law_k","_law_letter"] ["_law_cell_here","_law_many"] (defScope s_l_names):=⟨rfl,rfl,rfl,by decide +kernel,rfl,by decide +kernel,by decide +kernel⟩
theorem ok_l_names (d:Dfn K mg "_law_names" s_l_names ["_law_cell_here","_law_many"]) (er:Errs K mg c_Capped c_Early c_NoTable c_Rested c_Rule) (n_range:mg "range" = none)  :Cal P w K mg base "_law_names" ["_law_cell_here","_law_many"] 1 (sp_l_names K ns):=by
  refine d.cal (k:=0) sc_l_names (fun vs H Q E h=>?_) (fun f cdv A outer s H vs Q E hr h=>?_)
  · match vs, h with
    | [.int c, .int m], _ => rfl
  · match vs, h with
    | [.int c, .int m], hq0 =>
      obtain ⟨⟨m0, m8⟩, q⟩ := hq0
      refine ⟨_,(@pss_cons _ _ _ _ _ (@ps_set _ _ (2) _ _ _ _ sc_l_names.nd rfl (by first | exact Or.inl rfl | exact Or.inr rfl) pe_str (by rfl) (by first | exact .inl rfl | exact .inr rfl | assumption)) (@pss_cons _ _ _ _ _ (@ps_set _ _ (3) _ _ _ _ sc_l_names.nd rfl (by first | exact Or.inl rfl | exact Or.inr rfl) (@e_join _ _ _ _ _ ("join") _ _ pe_str (@pa_cons _ _ _ _ _ (@e_compN _ _ _ _ _ _ _ _ _ _ ["_law_k"] ["_law_letters","_law_cell_here"] [2,0] rfl (@pi_range1 _ _ _ _ _ _ (by rfl) n_range (@pa_cons _ _ _ _ _ pe_int pa_nil (by rfl)) (by rfl)) (fun C s H fp=>(@pg_name _ _ (0) _ (show List.Nodup [("_law_k":Str),("_law_letters":Str),("_law_cell_here":Str)] by decide +kernel) rfl (by first | exact Or.inl rfl | exact Or.inr rfl) (by first | exact .inl rfl | exact .inr rfl | assumption))) (fun C s H fp=>(@pe_ix _ _ _ _ _ _ _ i_str (dv 1) (@pe_op _ _ _ _ _ _ _ _ o_mod (@pe_op _ _ _ _ _ _ _ _ o_div (dv 2) (@pe_op _ _ _ _ _ _ _ _ o_add pe_int (@pe_op _ _ _ _ _ _ _ _ o_mul pe_int (dv 0)))) pe_int) (fun _ _=>rfl))) rfl rfl (by decide +kernel) (by decide +kernel) (by rfl) ⟨rfl,⟨rfl,True.intro⟩⟩ ⟨⟨rfl,rfl,rfl,rfl⟩,⟨⟨rfl,rfl,rfl,rfl⟩,True.intro⟩⟩ (by intro _; rfl)) pa_nil (by rfl)) (by rfl) (by rfl) (by rfl) (by rfl) (by rfl)) (by rfl) (by first | exact .inl rfl | exact .inr rfl | assumption)) (@pss_cons _ _ _ _ _ (@ps_set _ _ (4) _ _ _ _ sc_l_names.nd rfl (by first | exact Or.inl rfl | exact Or.inr rfl) (@pe_op _ _ _ _ _ _ _ _ o_add pe_int (@pe_op _ _ _ _ _ _ _ _ o_mod (dv 0) pe_int)) (by rfl) (by first | exact .inl rfl | exact .inr rfl | assumption)) (@pss_cons _ _ _ _ _ (@s_if _ _ _ _ _ _ _ _ (@t_cmp _ _ _ _ _ _ _ _ o_eq (@pe_op _ _ _ _ _ _ _ _ o_mod (@pe_op _ _ _ _ _ _ _ _ o_div (dv 0) pe_int) pe_int) pe_int (@nomark _ _ (by decide) (by decide))) (@pss_one _ _ _ (@ps_ret _ _ _ _ (@e_compN _ _ _ _ _ _ _ _ _ _ ["_law_k"] ["_law_base","_law_size"] [3,4] rfl (@pi_range1 _ _ _ _ _ _ (by rfl) n_range (@pa_cons _ _ _ _ _ (dv 1) pa_nil (by rfl)) (by rfl)) (fun C s H fp=>(@pg_name _ _ (0) _ (show List.Nodup [("_law_k":Str),("_law_base":Str),("_law_size":Str)] by decide +kernel) rfl (by first | exact Or.inl rfl | exact Or.inr rfl) (by first | exact .inl rfl | exact .inr rfl | assumption))) (fun C s H fp=>(@pe_slice _ _ _ _ _ _ _ _ _ _ sl_str (dv 1) po_none (po_some (pe_op o_add pe_int (pe_op o_mod (pe_op o_add (dv 2) (dv 0)) pe_int))))) rfl rfl (by decide +kernel) (by decide +kernel) (by rfl) ⟨rfl,⟨rfl,True.intro⟩⟩ ⟨⟨rfl,rfl,rfl,rfl⟩,⟨⟨rfl,rfl,rfl,rfl⟩,True.intro⟩⟩ (by intro _; rfl)))) pss_nil) (@ss_cutE _ _ _ _ _ (@ps_set _ _ (5) _ _ _ _ sc_l_names.nd rfl (by first | exact Or.inl rfl | exact Or.inr rfl) (@pe_op _ _ _ _ _ _ _ _ o_mod (@pe_op _ _ _ _ _ _ _ _ o_div (dv 0) pe_int) (dv 4)) (by rfl) (by first | exact .inl rfl | exact .inr rfl | assumption)) (@pss_cons _ _ _ _ _ (@ps_set _ _ (6) _ _ _ _ sc_l_names.nd rfl (by first | exact Or.inl rfl | exact Or.inr rfl) (@pe_lst _ _ _ _ pa_nil) (by rfl) (by first | exact .inl rfl | exact .inr rfl | assumption)) (@pss_cons _ _ _ _ _ (@ps_for _ _ _ _ _ _ _ _ PassesOwn.never rfl (@pi_range1 _ _ _ _ _ _ (by rfl) n_range (@pa_cons _ _ _ _ _ (dv 1) pa_nil (by rfl)) (by rfl)) (@pg_name _ _ (7) _ sc_l_names.nd rfl (by first | exact Or.inl rfl | exact Or.inr rfl) (by first | exact .inl rfl | exact .inr rfl | assumption)) (@pss_cons _ _ _ _ _ (@ps_set _ _ (8) _ _ _ _ sc_l_names.nd rfl (by first | exact Or.inl rfl | exact Or.inr rfl) (@pe_ix _ _ _ _ _ _ _ i_str (dv 2) (@pe_op _ _ _ _ _ _ _ _ o_mod (@pe_op _ _ _ _ _ _ _ _ o_add (@pe_op _ _ _ _ _ _ _ _ o_div (dv 0) pe_int) (@pe_op _ _ _ _ _ _ _ _ o_mul pe_int (dv 7))) pe_int) (fun _ _=>rfl)) (by rfl) (by first | exact .inl rfl | exact .inr rfl | assumption)) (@pss_one _ _ _ (@ps_expr _ _ _ _ (@pe_bm _ _ _ _ _ _ _ _ _ _ _ _ PySem.F.plainAttrs_list PySem.F.slot_list_append PySem.F.type_list_append mt_append (dv 6) (@pa_cons _ _ _ _ _ (@pe_op _ _ _ _ _ _ _ _ o_addS (@pe_op _ _ _ _ _ _ _ _ o_addS (@pe_slice _ _ _ _ _ _ _ _ _ _ sl_str (dv 3) po_none (po_some (dv 5))) (dv 8)) (@pe_slice _ _ _ _ _ _ _ _ _ _ sl_str (dv 3) (po_some (pe_op o_add (dv 5) pe_int)) (po_some (dv 4)))) pa_nil (by rfl)) (by rfl) (by rfl) (by rfl) (by rfl) (by rfl)) (by rfl)))) (by intro _; rfl)) (@pss_one _ _ _ (@ps_ret _ _ _ _ (dv 6)))))))))),?_⟩
      refine ⟨rfl,8,rfl,by decide,by decide,comp_rng (n:=8) (fun j=>V.str ⟨#[ltz (c / (4 + 3 * (0 + (j:Int))))]⟩) (by decide) ?_ ?_⟩
      · intro i H2 hi s2 P hP
        have e0:=Int.emod_nonneg (c / (4 + 3 * (0 + (i:Int)))) (show (26:Int) ≠ 0 by decide)
        have e1:=Int.emod_lt_of_pos (c / (4 + 3 * (0 + (i:Int)))) (show (0:Int) < 26 by decide)
        have bd:Bd 4000 (4 + 3 * (0 + (i:Int))):=bd_of (b:=100) (by omega) (by omega) (bd_lit rfl)
        exact ⟨rfl,.inr (.inl ⟨by decide,by decide⟩),⟨by show 0 < 4 + 3 * (0 + (i:Int)); omega,bd⟩,(by show (0:Int) < 26; decide),_,by decide +kernel,abz_get e0 e1,hP⟩
      intro D H2 s2 e2
      refine ⟨(List.range 8).map fun j:Nat=>⟨#[ltz (c / (4 + 3 * (0 + (j:Int))))]⟩,SqL.of ?_,Nat.le_of_ble_eq_true rfl,?_⟩
      · rw [e2, List.map_map]
        rfl
      have hb:co (Txt.join (Str.ofString "") ((List.range 8).map fun j:Nat=>⟨#[ltz (c / (4 + 3 * (0 + (j:Int))))]⟩)) = bs44 c:=by
        rw [join0, List.map_map]
        rfl
      generalize Txt.join (Str.ofString "") ((List.range 8).map fun j:Nat=>(⟨#[ltz (c / (4 + 3 * (0 + (j:Int))))]⟩:Str)) = b at hb
      have lb:b.length = 8:=by rw [← co_len,hb,bs44_len]
      have zb : b.length ≤ sizeLine := by rw [lb]; decide
      have z0:=Int.emod_nonneg c (show (8:Int) ≠ 0 by decide)
      have z1:=Int.emod_lt_of_pos c (show (0:Int) < 8 by decide)
      refine ⟨(by show (0:Int) < 8; decide),⟨by decide,bd_lit rfl⟩,(by show (0:Int) < 3; decide),⟨fun _=>?_,fun _=>?_⟩⟩
      · refine ⟨_,rfl,by omega,by omega,comp_rng (n:=m.toNat) (fun k=>V.str (Txt.slice b none (some (1 + (1 + c % 8 + (0 + (k:Int))) % 8)))) (by omega) ?_ ?_⟩
        · intro i H3 hi s3 P hP
          exact ⟨rfl,(by show (0:Int) < 8; decide),_,rfl,zb,hP⟩
        intro L H3 s3 e3
        have cs:∀ k:Nat,co (Txt.slice b none (some (1 + (1 + c % 8 + (0 + (k:Int))) % 8))) = (bs44 c).take ((1 + (1 + c % 8 + (0 + (k:Int))) % 8).toNat):=fun k=>by
          have w0:=Int.emod_nonneg (1 + c % 8 + (0 + (k:Int))) (show (8:Int) ≠ 0 by decide)
          have w1:=Int.emod_lt_of_pos (1 + c % 8 + (0 + (k:Int))) (show (0:Int) < 8 by decide)
          obtain ⟨t,ht⟩:∃ t:Nat,1 + (1 + c % 8 + (0 + (k:Int))) % 8 = t:=⟨_,(Int.toNat_of_nonneg (by omega)).symm⟩
          rw [ht, co_to (by omega), hb, Int.toNat_natCast]
        refine q L ((List.range m.toNat).map fun k:Nat=>Txt.slice b none (some (1 + (1 + c % 8 + (0 + (k:Int))) % 8))) H3 (s2.trans s3) (by rw [e3,List.map_map]; rfl) (by rw [List.length_map,List.length_range]; omega) ?_ fun x hx=>?_
        · refine List.pairwise_map.mpr (List.nodup_range.imp_of_mem fun {i j} hi hj ne=>fun z=>ne ?_)
          have hi := List.mem_range.mp hi
          have hj := List.mem_range.mp hj
          have := congrArg (fun x => (co x).length) z
          simp only [cs, List.length_take, bs44_len] at this
          omega
        · obtain ⟨k, _, rfl⟩ := List.mem_map.mp hx
          refine str_ok fun e he => ?_
          rw [cs] at he
          exact bs44_lt e (List.mem_of_mem_take he)
      have y0:=Int.emod_nonneg (c / 24) (show 1 + c % 8 ≠ 0 by omega)
      have y1:=Int.emod_lt_of_pos (c / 24) (show 0 < 1 + c % 8 by omega)
      refine ⟨fun σ H'=>∃ at' sz:Nat,σ = [some (.int c),some (.int m),some (.str abz),some (.str b),some (.int (1 + (sz:Int))),some (.int (at':Int)),none,none,none]∧H' = H2∧at' < 1 + sz∧sz < 8,?_,?_⟩
      · refine ⟨⟨by decide,bd_lit rfl⟩,by show 0 < 1 + c % 8; omega,(c / 24 % (1 + c % 8)).toNat,(c % 8).toNat,?_,rfl,by omega,by omega⟩
        rw [Int.toNat_of_nonneg y0, Int.toNat_of_nonneg z0]
        rfl
      rintro σ H' ⟨at', sz, rfl, rfl, as, s8⟩
      refine ⟨Nat.zero_le _, fun D3 n3 => ?_⟩
      refine ⟨m,rfl,by omega,by omega,for_range (lo:=0) (n:=m.toNat) (fun i σ H1=>∃ (nm:List Str) (o1 o2:Option V),σ = [some (.int c),some (.int m),some (.str abz),some (.str b),some (.int (1 + (sz:Int))),some (.int (at':Int)),some (.ref D3),o1,o2]∧H1 = upd H' D3 (.lst (nm.map V.str))∧nm.length = i∧∀ (j:Nat) x,nm[j]? = some x→co x = nm44 c at' (1 + sz) j)
        ⟨[],none,none,rfl,rfl,rfl,fun j x h=>by simp at h⟩ ?_ ?_⟩
      · rintro i σ H1 hi ⟨nm, o1, o2, rfl, rfl, hl, hall⟩
        have e0:=Int.emod_nonneg (c / 200 + 3 * (0 + (i:Int))) (show (26:Int) ≠ 0 by decide)
        have e1:=Int.emod_lt_of_pos (c / 200 + 3 * (0 + (i:Int))) (show (0:Int) < 26 by decide)
        refine ⟨⟨by decide,bd_lit rfl⟩,.inr (.inl ⟨by decide,by decide⟩),(by show (0:Int) < 26; decide),_,by decide +kernel,abz_get e0 e1,?_⟩
        have l1:(Txt.slice b none (some (at':Int))).length ≤ 8:=Nat.le_trans (Txt.slice_le _ _ _) (by omega)
        have l2:(Txt.slice b (some ((at':Int) + 1)) (some (1 + (sz:Int)))).length ≤ 8:=Nat.le_trans (Txt.slice_le _ _ _) (by omega)
        have big : (8 : Nat) + 1 + 8 ≤ sizeLine := by decide
        have sl1:co (Txt.slice b none (some (at':Int))) = (bs44 c).take at':=by
          rw [co_to (by omega), hb]
        have sl2:co (Txt.slice b (some ((at':Int) + 1)) (some (1 + (sz:Int)))) = ((bs44 c).drop (at' + 1)).take (1 + sz - (at' + 1)):=by
          have:=co_cut (x:=b) (i:=at' + 1) (j:=1 + sz) (by omega) (by omega)
          rw [hb] at this
          exact this
        refine ⟨.inl ⟨rfl,_,SqL.of upd_same⟩,_,rfl,zb,?_⟩
        refine ⟨Nat.le_trans (Nat.add_le_add l1 (Nat.le_refl 1)) (by decide),_,rfl,_,rfl,zb,?_⟩
        refine ⟨?_, ?_⟩
        · rw [len_app]
          exact Nat.le_trans (Nat.add_le_add (Nat.add_le_add l1 (Nat.le_refl 1)) l2) big
        refine ⟨D3,_,_,rfl,rfl,upd_same,?_,nm ++ [Txt.slice b none (some (at':Int)) ++ ⟨#[ltz (c / 200 + 3 * (0 + (i:Int)))]⟩ ++ Txt.slice b (some ((at':Int) + 1)) (some (1 + (sz:Int)))],_,_,rfl,?_,?_,fun j x hx=>?_⟩
        · rw [List.length_map, hl]
          exact Nat.lt_of_lt_of_le (show i < 8 by omega) (by decide)
        · rw [upd_upd, List.map_append]
          rfl
        · rw [List.length_append, hl]
          rfl
        · by_cases hj : j < nm.length
          · rw [List.getElem?_append_left hj] at hx
            exact hall j x hx
          · have ej : j = i := by
              have := (List.getElem?_eq_some_iff.mp hx).1
              rw [List.length_append,List.length_singleton] at this
              omega
            subst ej
            rw [List.getElem?_append_right (by omega),hl,Nat.sub_self] at hx
            cases hx
            rw [co_app,co_app,sl1,sl2,co_one,Int.zero_add]
            rfl
      rintro σ H1 ⟨nm, o1, o2, rfl, rfl, hl, hall⟩
      refine q D3 nm _ (s2.trans (same_upd n3)) upd_same (by omega) ?_ fun x hx=>?_
      · refine List.pairwise_iff_getElem.mpr fun i j hi hj lt z=>?_
        have h1 := hall i _ (List.getElem?_eq_getElem hi)
        have h2 := hall j _ (List.getElem?_eq_getElem hj)
        rw [z, h2] at h1
        have := nm44_inj (by omega) (by omega) h1
        omega
      · obtain ⟨j, hj, rfl⟩ := List.mem_iff_getElem.mp hx
        refine str_ok fun e he => ?_
        rw [hall j _ (List.getElem?_eq_getElem hj)] at he
        exact nm44_lt e he
theorem low_scale {g a b:Int} (hg:0 < g):lowT (a * g) (b * g) = lowT a b∧lowB (a * g) (b * g) = lowB a b:=by
  have e:(Int.gcd (a * g) (b * g):Int) = (Int.gcd a b:Int) * g:=by
    rw [Int.gcd_mul_right]
    have:(g.natAbs:Int) = g:=Int.natAbs_of_nonneg (Int.le_of_lt hg)
    rw [Int.natCast_mul, this]
  unfold lowT lowB
  rw [e]
  exact ⟨Int.mul_ediv_mul_of_pos_left _ _ hg,Int.mul_ediv_mul_of_pos_left _ _ hg⟩
theorem low_same {t b t' b':Int} (hb:0 < b) (hb':0 < b') (h:t * b' = t' * b):lowT t b = lowT t' b'∧lowB t b = lowB t' b':=by
  have e1 := low_scale (a := t) (b := b) hb'
  have e2 := low_scale (a := t') (b := b') hb
  rw [h, show b * b' = b' * b from Int.mul_comm ..] at e1
  exact ⟨e1.1.symm.trans e2.1, e1.2.symm.trans e2.2⟩
def rv (q : Q2) : Rat := rq q.1 q.2
structure Lo (q : Q2) : Prop where
  pos : 0 < q.2
  g : Int.gcd q.1 q.2 = 1
theorem Lo.eq {p q:Q2} (hp:Lo p) (hq:Lo q) (h:rv p = rv q):p = q:=by
  have h := (rq_eq hp.pos hq.pos).mp h
  obtain ⟨e1, e2⟩ := low_same hp.pos hq.pos h
  obtain ⟨a1, a2⟩ := gcd1_low hp.g
  obtain ⟨b1, b2⟩ := gcd1_low hq.g
  rw [a1, b1] at e1
  rw [a2, b2] at e2
  exact Prod.ext e1 e2
theorem lo_fr (t:Int) {b:Int} (hb:0 < b):Lo (frT t b,frB t b):=by
  obtain ⟨e1, e2⟩ := fr_low (t := t) hb
  refine ⟨?_, ?_⟩
  · show 0 < frB t b
    rw [e2]
    exact lowB_pos t hb
  · show Int.gcd (frT t b) (frB t b) = 1
    rw [e1, e2]
    exact low_gcd t hb
theorem rv_fr (t:Int) {b:Int} (hb:0 < b):rv (frT t b,frB t b) = rq t b:=by
  obtain ⟨e1, e2⟩ := fr_low (t := t) hb
  show rq (frT t b) (frB t b) = _
  rw [e1, e2]
  exact rq_low hb
theorem lo_int (n:Int):Lo (n,1):=⟨(by decide:(0:Int) < 1),Int.gcd_one_right ..⟩
theorem rv_int (n : Int) : rv (n, 1) = (n : Rat) := by
  show (n : Rat) / ((1 : Int) : Rat) = n
  rw [Rat.intCast_one]
  grind
theorem rq_neg {t b:Int} (hb:0 < b):rq (-t) b = - rq t b:=by
  have p1 := ic_pos hb
  unfold rq
  rw [Rat.intCast_neg]
  generalize (t : Rat) = t at *
  generalize (b : Rat) = b at *
  grind
theorem lo_pl {x b:Q2} (hx:0 < x.2) (hb:0 < b.2):Lo (plQ x b)∧rv (plQ x b) = rv x + rv b:=by
  have pp := Int.mul_pos hx hb
  refine ⟨lo_fr _ pp, ?_⟩
  unfold plQ
  rw [rv_fr _ pp]
  exact rq_add hx hb
theorem lo_mn {x b:Q2} (hx:0 < x.2) (hb:0 < b.2):Lo (mnQ x b)∧rv (mnQ x b) = rv x - rv b:=by
  have pp := Int.mul_pos hx hb
  refine ⟨lo_fr _ pp, ?_⟩
  unfold mnQ
  rw [rv_fr _ pp,show x.1 * b.2 - b.1 * x.2 = x.1 * b.2 + (-b.1) * x.2 by rw [Int.neg_mul]; omega,rq_add hx hb,rq_neg hb]
  show rv x + - rv b = _
  grind
theorem lo_neg {b:Q2} (h:Lo b):Lo (0 - b.1,b.2)∧rv (0 - b.1,b.2) = - rv b:=by
  refine ⟨⟨h.pos, ?_⟩, ?_⟩
  · show Int.gcd (0 - b.1) b.2 = 1
    rw [Int.zero_sub, Int.neg_gcd]
    exact h.g
  · show rq (0 - b.1) b.2 = _
    rw [Int.zero_sub]
    exact rq_neg h.pos
theorem lo_bt {so one z h:Int} {x:Q2} (s:ShQ x):Lo (btQ so one z h x):=by
  have s0 := s.b0
  have u:Lo (unQ z h x):=lo_fr _ (by show 0 < 2 * x.2; omega)
  unfold btQ
  split
  · unfold cutQ
    split
    · exact lo_int _
    · split
      · exact lo_int _
      · exact u
  · exact u
theorem lo_nxt {so st fi one two:Int} {rows:List Rw} {w:Wn} {g:Gm} (tb:Tb rows) (h:∀ x,Lo (wq fi (w x))) (x:Str):Lo (wq fi (nxt so st fi one two rows w g x)):=by
  have bb:Lo (gbit so st fi one two rows w g):=lo_bt (sh_due tb _ _)
  unfold nxt
  split
  · exact (lo_mn (h g.b).pos bb.pos).1
  · split
    · exact (lo_pl (h g.a).pos bb.pos).1
    · exact h x
theorem lo_wst {so st fi one two:Int} {rows:List Rw} (tb:Tb rows):∀ {gs:List Gm} {w:Wn},(∀ x,Lo (wq fi (w x)))→∀ x,Lo (wq fi (wst so st fi one two rows w gs x))
  | [], _, h => h
  | g :: gs,w,h=>lo_wst tb (gs:=gs) (w:=nxt so st fi one two rows w g) (lo_nxt tb h)
def mst (so st one two:Int):Int:=if so = 1 then mx st one else if so = 2 then st * mx 1 two else st
theorem chn_up:∀ {l:List Rw} {a:Rw},chn (a :: l) = true→(∀ r ∈ a :: l,rowOk (some r) = true)→a.2.2 ≤ 2 * a.2.1→∀ x ∈ l,a.1 < x.1∧x.2.2 ≤ 2 * x.2.1
  | [], _, _, _, _, x, hx => by cases hx
  | b :: l, a, h, ok, ha, x, hx => by
    have h : (goR a b && chn (b :: l)) = true := h
    rw [Bool.and_eq_true] at h
    have g':(decide (a.1 < b.1) && decide (¬ b.2.1 * a.2.2 < a.2.1 * b.2.2)) = true:=h.1
    rw [Bool.and_eq_true] at g'
    have g1 := of_decide_eq_true g'.1
    have g2 := Int.not_lt.mp (of_decide_eq_true g'.2)
    have ba := row_bd (ok a List.mem_cons_self)
    have bb:=row_bd (ok b (List.mem_cons_of_mem _ List.mem_cons_self))
    have hb : b.2.2 ≤ 2 * b.2.1 := by
      have h1:a.2.2 * b.2.2 ≤ 2 * a.2.1 * b.2.2:=Int.mul_le_mul_of_nonneg_right ha (by omega)
      have h2 : b.2.2 * a.2.2 ≤ 2 * b.2.1 * a.2.2 := by
        have e1:b.2.2 * a.2.2 = a.2.2 * b.2.2:=Int.mul_comm ..
        have e2:2 * a.2.1 * b.2.2 = 2 * (a.2.1 * b.2.2):=Int.mul_assoc ..
        have e3:2 * b.2.1 * a.2.2 = 2 * (b.2.1 * a.2.2):=Int.mul_assoc ..
        omega
      exact Int.le_of_mul_le_mul_right h2 (by omega)
    rcases List.mem_cons.mp hx with rfl | hx
    · exact ⟨g1, hb⟩
    · obtain ⟨i1,i2⟩:=chn_up h.2 (fun r hr=>ok r (List.mem_cons_of_mem _ hr)) hb x hx
      exact ⟨by omega, i2⟩
theorem due_half {rows:List Rw} (g:GoodT rows) {t b:Int} (hb:0 < b):(0 ≤ t→(due rows t b).2 ≤ 2 * (due rows t b).1)∧(t ≤ 0→2 * (due rows t b).1 ≤ (due rows t b).2):=by
  have tb := good_tb g
  obtain ⟨_, ok, hd, ch⟩ := g
  obtain ⟨r, rs, rfl⟩ : ∃ r rs, rows = r :: rs := by
    cases rows with
    | nil => cases hd
    | cons r rs => exact ⟨r, rs, rfl⟩
  have hr : r = (0, 1, 2) := by
    have : some r = some (0, 1, 2) := hd
    exact Option.some.inj this
  have up := chn_up ch ok (by rw [hr]; decide)
  have half:∀ {t:Int},0 ≤ t→(pick t b (r :: rs) (0,1)).2 ≤ 2 * (pick t b (r :: rs) (0,1)).1:=fun {t} ht=>by
    obtain ⟨x, hx, e⟩ := pick_ok (b := b) tb ht (0, 1)
    rw [e]
    rcases List.mem_cons.mp hx with rfl | hx
    · rw [hr]
      decide
    · exact (up x hx).2
  have zero : pick 0 b (r :: rs) (0, 1) = (1, 2) := by
    rw [pick_cons,hr,if_pos (by show (0:Int) * b ≤ 0; omega)]
    have hr1 : r.1 = 0 := by rw [hr]
    have:∀ (l:List Rw),(∀ x ∈ l,0 < x.1)→pick 0 b l (1,2) = (1,2):=fun l=>by
      induction l with
      | nil => exact fun _ => rfl
      | cons x l ih =>
        intro h
        have h1 := Int.mul_pos (h x List.mem_cons_self) hb
        rw [pick_cons, if_neg (by omega)]
        exact ih fun y hy => h y (List.mem_cons_of_mem _ hy)
    exact this rs fun x hx => by
      have := (up x hx).1
      omega
  refine ⟨fun h => ?_, fun h => ?_⟩
  · rw [due_nn h]
    exact half h
  · by_cases c : t = 0
    · subst c
      rw [due_nn (Int.le_refl _), zero]
      decide
    · have c : t < 0 := by omega
      rw [due_neg c, due_nn (show 0 ≤ -t by omega)]
      have := half (t := -t) (by omega)
      show 2 * (_ - _) ≤ _
      omega
structure Won (so st one two:Int) (b:Q2) (up:Prop):Prop where
  nn : 0 ≤ b.1
  le : b.1 ≤ mst so st one two * b.2
  cap : so = 3 → b.1 ≤ one * b.2
  half : up → 2 * b.1 ≤ mst so st one two * b.2
theorem cut_neg {b:Q2} {c:Int} (hc:0 ≤ c) (hb:0 < b.2):cutQ (-b.1,b.2) c = (-(cutQ b c).1,(cutQ b c).2):=by
  have q0 := Int.mul_nonneg hc (Int.le_of_lt hb)
  unfold cutQ
  show (if c * b.2 < -b.1 then (c,1) else if -b.1 < -c * b.2 then (-c,1) else (-b.1,b.2)) = _
  rw [Int.neg_mul]
  by_cases c1 : c * b.2 < b.1
  · rw [if_neg (by omega), if_pos (by omega), if_pos c1]
  · by_cases c2 : b.1 < -(c * b.2)
    · rw [if_pos (by omega),if_neg c1,if_pos c2,Int.neg_neg]
    · rw [if_neg (by omega),if_neg (by omega),if_neg c1,if_neg c2]
theorem fr_neg {t b:Int} (hb:0 < b):(frT (-t) b,frB (-t) b) = ((-(frT t b),frB t b):Q2):=by
  refine Lo.eq (lo_fr _ hb) ?_ ?_
  · have := (lo_neg (lo_fr t hb)).1
    rw [Int.zero_sub] at this
    exact this
  · rw [rv_fr _ hb, rq_neg hb]
    have := (lo_neg (lo_fr t hb)).2
    rw [Int.zero_sub, rv_fr _ hb] at this
    exact this.symm
structure Ig where
  d : Int
  i : Nat
  j : Nat
  h : Int
  s : Int
def IgAt (H:Hp) (v:V) (g:Ig):Prop:=∃ p,v = .ref p∧H p = some (.tup [.int g.d,.int (g.i:Int),.int (g.j:Int),.int g.h,.int g.s])
theorem ig_up (v:V) (g:Ig) (H H':Hp) (k:Kt H H') (h:IgAt H v g):IgAt H' v g:=by
  obtain ⟨p, e, h⟩ := h
  exact ⟨p, e, k _ _ h⟩
def nx (nm : List Str) (k : Nat) : Str := nm.getD k abz
def nmd (nm:List Str) (g:Ig):Gm:=⟨g.d,nx nm g.i,nx nm g.j,g.h,g.s⟩
theorem nx_get {nm:List Str} {k:Nat} (h:k < nm.length):nm[k]? = some (nx nm k):=by
  unfold nx
  rw [List.getD_eq_getElem?_getD,List.getElem?_eq_getElem h]
  rfl
theorem nx_inj {nm:List Str} (nd:nm.Nodup) {k l:Nat} (hk:k < nm.length) (hl:l < nm.length) (h:nx nm k = nx nm l):k = l:=by
  have h1 := nx_get hk
  have h2 := nx_get hl
  rw [List.getElem?_eq_getElem hk] at h1
  rw [List.getElem?_eq_getElem hl] at h2
  exact (List.getElem_inj (h₀:=hk) (h₁:=hl) nd).mp (by rw [Option.some.inj h1,Option.some.inj h2,h])
def Twi (la:Int) (g g':Ig):Prop:=g'.d = g.d + la∧((g'.i = g.i∧g'.j = g.j∧g'.h = g.h) ∨ (g'.i = g.j∧g'.j = g.i∧g'.h = 2 - g.h))
def Sim (fi fi' la:Int) (s s':Option Ps):Prop:=s'.isSome = s.isSome∧Lo (wq fi s)∧Lo (wq fi' s')∧rv (wq fi' s') = rv (wq fi s) + ((fi' - fi:Int):Rat)∧wnn s' = wnn s∧∀ d,wr (d + la) s' = wr d s
theorem sim_none (fi fi' la:Int):Sim fi fi' la none none:=⟨rfl,lo_int fi,lo_int fi',by
  show rv (fi', 1) = rv (fi, 1) + _
  rw [rv_int, rv_int, Rat.intCast_sub]
  grind, rfl, fun _ => rfl⟩
theorem mn_comm (i j : Int) : mn i j = mn j i := by
  unfold mn
  split <;> split <;> omega
theorem mx_comm (i j : Int) : mx i j = mx j i := by
  unfold mx
  split <;> split <;> omega
theorem due_turn {rows:List Rw} (g:GoodT rows) (t:Int) {b:Int} (hb:0 < b):due rows (-t) b = ((due rows t b).2 - (due rows t b).1,(due rows t b).2):=by
  rcases Int.lt_trichotomy t 0 with c | c | c
  · rw [due_neg c]
    refine Prod.ext ?_ rfl
    show (due rows (-t) b).1 = (due rows (-t) b).2 - ((due rows (-t) b).2 - (due rows (-t) b).1)
    omega
  · subst c
    obtain ⟨d1, d2⟩ := due_half g (t := 0) hb
    have d1 := d1 (Int.le_refl _)
    have d2 := d2 (Int.le_refl _)
    refine Prod.ext ?_ rfl
    show (due rows 0 b).1 = (due rows 0 b).2 - (due rows 0 b).1
    omega
  · rw [due_neg (t := -t) (by omega), Int.neg_neg]
theorem bt_turn {so one z h:Int} {x:Q2} (s:ShQ x) (o0:0 ≤ one):btQ so one z (2 - h) (x.2 - x.1,x.2) = (-(btQ so one z h x).1,(btQ so one z h x).2):=by
  have s2 := s.b0
  have pb : 0 < unB x := by show 0 < 2 * x.2; omega
  have e:unT z (2 - h) (x.2 - x.1,x.2) = -(unT z h x):=by
    unfold unT
    show z * ((2 - h) * x.2 - 2 * (x.2 - x.1)) = -(z * (h * x.2 - 2 * x.1))
    rw [← Int.mul_neg, Int.sub_mul]
    congr 1
    omega
  have u:unQ z (2 - h) (x.2 - x.1,x.2) = (-(unQ z h x).1,(unQ z h x).2):=by
    have := fr_neg (t := unT z h x) pb
    unfold unQ
    rw [e]
    exact this
  have pq : 0 < (unQ z h x).2 := (lo_fr _ pb).pos
  unfold btQ
  rw [u]
  split
  · exact cut_neg o0 pq
  · rfl
theorem mn_turn {x y x' y':Q2} (hx:Lo x) (hy:Lo y) (hx':Lo x') (hy':Lo y') {c:Rat} (ex:rv x' = rv x + c) (ey:rv y' = rv y + c):mnQ x' y' = mnQ x y∧mnQ y' x' = (-(mnQ x y).1,(mnQ x y).2):=by
  obtain ⟨l1, r1⟩ := lo_mn hx.pos hy.pos
  obtain ⟨l2, r2⟩ := lo_mn hx'.pos hy'.pos
  obtain ⟨l3, r3⟩ := lo_mn hy'.pos hx'.pos
  obtain ⟨l4, r4⟩ := lo_neg l1
  rw [Int.zero_sub] at l4 r4
  exact ⟨Lo.eq l2 l1 (by rw [r1,r2]; grind),Lo.eq l3 l4 (by rw [r3,r4,r1]; grind)⟩
theorem bit_sim {so st fi fi' one two la:Int} {rows:List Rw} (gd:GoodT rows) (nb:Nb st one two) {w w':Wn} {nm oth:List Str} {g g':Ig} (tw:Twi la g g') (hi:Sim fi fi' la (w (nx nm g.i)) (w' (nx oth g.i))) (hj:Sim fi fi' la (w (nx nm g.j)) (w' (nx oth g.j))) :
    ((g'.i = g.i∧g'.j = g.j)∧gbit so st fi' one two rows w' (nmd oth g') = gbit so st fi one two rows w (nmd nm g)) ∨ ((g'.i = g.j∧g'.j = g.i)∧gbit so st fi' one two rows w' (nmd oth g') = (-(gbit so st fi one two rows w (nmd nm g)).1,(gbit so st fi one two rows w (nmd nm g)).2)):=by
  obtain ⟨_, a1, a2, a3, a4, a5⟩ := hi
  obtain ⟨_, b1, b2, b3, b4, b5⟩ := hj
  obtain ⟨m1, m2⟩ := mn_turn a1 b1 a2 b2 a3 b3
  obtain ⟨td, ⟨ti, tj, th⟩ | ⟨ti, tj, th⟩⟩ := tw
  · refine .inl ⟨⟨ti, tj⟩, ?_⟩
    unfold gbit nmd
    simp only [ti, tj, th, td]
    rw [a4, b4, a5, b5, m1]
  · refine .inr ⟨⟨ti, tj⟩, ?_⟩
    unfold gbit nmd
    simp only [ti, tj, th, td]
    rw [a4, b4, a5, b5, m2, mn_comm, mx_comm]
    show btQ so one _ (2 - g.h) (due rows (-(mnQ (wq fi (w (nx nm g.i))) (wq fi (w (nx nm g.j)))).1) (mnQ (wq fi (w (nx nm g.i))) (wq fi (w (nx nm g.j)))).2) = _
    rw [due_turn gd _ (lo_mn a1.pos b1.pos).1.pos]
    exact bt_turn (sh_due (good_tb gd) _ _) nb.o0
theorem sim_nxt {so st fi fi' one two la:Int} {rows:List Rw} (gd:GoodT rows) (nb:Nb st one two) {w w':Wn} {nm oth:List Str} (nd:nm.Nodup) (nd':oth.Nodup) (ln:nm.length = oth.length) {g g':Ig} (gi:g.i < nm.length) (gj:g.j < nm.length) (ne:g.i ≠ g.j) (tw:Twi la g g')
    (hw:∀ k,k < nm.length→Sim fi fi' la (w (nx nm k)) (w' (nx oth k))):∀ k,k < nm.length→Sim fi fi' la (nxt so st fi one two rows w (nmd nm g) (nx nm k)) (nxt so st fi' one two rows w' (nmd oth g') (nx oth k)):=fun k hk=>by
  have tb := good_tb gd
  have hk' : k < oth.length := by omega
  have e1:nx nm k = (nmd nm g).a ↔ k = g.i:=⟨fun h=>nx_inj nd hk gi h,fun h=>by rw [h]; rfl⟩
  have e2:nx nm k = (nmd nm g).b ↔ k = g.j:=⟨fun h=>nx_inj nd hk gj h,fun h=>by rw [h]; rfl⟩
  have lb:Lo (gbit so st fi one two rows w (nmd nm g)):=lo_bt (sh_due tb _ _)
  have bs:=bit_sim (so:=so) gd nb (nm:=nm) (oth:=oth) (w:=w) (w':=w') tw (hw _ gi) (hw _ gj)
  have td := tw.1
  generalize hB:gbit so st fi one two rows w (nmd nm g) = B at lb bs
  generalize hB':gbit so st fi' one two rows w' (nmd oth g') = B' at bs
  obtain ⟨_, a1, a2, a3, a4, a5⟩ := hw _ gi
  obtain ⟨_, b1, b2, b3, b4, b5⟩ := hw _ gj
  have day:∀ d:Int,d + la - (g.d + la) = d - g.d:=fun d=>by omega
  rcases bs with ⟨⟨ti, tj⟩, eB⟩ | ⟨⟨ti, tj⟩, eB⟩
  · have f1:nx oth k = (nmd oth g').a ↔ k = g.i:=⟨fun h=>nx_inj nd' hk' (by omega) (by rw [← ti]; exact h),fun h=>by rw [h,← ti]; rfl⟩
    have f2:nx oth k = (nmd oth g').b ↔ k = g.j:=⟨fun h=>nx_inj nd' hk' (by omega) (by rw [← tj]; exact h),fun h=>by rw [h,← tj]; rfl⟩
    unfold nxt
    rw [hB, hB', eB]
    by_cases c2 : k = g.j
    · rw [if_pos (e2.mpr c2), if_pos (f2.mpr c2)]
      show Sim fi fi' la (some ⟨mnQ (wq fi (w (nx nm g.j))) B,wnn (w (nx nm g.j)) + 1,g.d⟩) (some ⟨mnQ (wq fi' (w' (nx oth g'.j))) B,wnn (w' (nx oth g'.j)) + 1,g'.d⟩)
      rw [tj, td]
      obtain ⟨l1, r1⟩ := lo_mn b1.pos lb.pos
      obtain ⟨l2, r2⟩ := lo_mn b2.pos lb.pos
      exact ⟨rfl,l1,l2,by show rv (mnQ _ _) = rv (mnQ _ _) + _; rw [r1,r2,b3]; grind,by show _ + 1 = _ + 1; rw [b4],day⟩
    · rw [if_neg fun z=>c2 (e2.mp z),if_neg fun z=>c2 (f2.mp z)]
      by_cases c1 : k = g.i
      · rw [if_pos (e1.mpr c1), if_pos (f1.mpr c1)]
        show Sim fi fi' la (some ⟨plQ (wq fi (w (nx nm g.i))) B,wnn (w (nx nm g.i)) + 1,g.d⟩) (some ⟨plQ (wq fi' (w' (nx oth g'.i))) B,wnn (w' (nx oth g'.i)) + 1,g'.d⟩)
        rw [ti, td]
        obtain ⟨l1, r1⟩ := lo_pl a1.pos lb.pos
        obtain ⟨l2, r2⟩ := lo_pl a2.pos lb.pos
        exact ⟨rfl,l1,l2,by show rv (plQ _ _) = rv (plQ _ _) + _; rw [r1,r2,a3]; grind,by show _ + 1 = _ + 1; rw [a4],day⟩
      · rw [if_neg fun z=>c1 (e1.mp z),if_neg fun z=>c1 (f1.mp z)]
        exact hw k hk
  · have f1:nx oth k = (nmd oth g').a ↔ k = g.j:=⟨fun h=>nx_inj nd' hk' (by omega) (by rw [← ti]; exact h),fun h=>by rw [h,← ti]; rfl⟩
    have f2:nx oth k = (nmd oth g').b ↔ k = g.i:=⟨fun h=>nx_inj nd' hk' (by omega) (by rw [← tj]; exact h),fun h=>by rw [h,← tj]; rfl⟩
    obtain ⟨lN, rN⟩ := lo_neg lb
    rw [Int.zero_sub] at lN rN
    unfold nxt
    rw [hB, hB', eB]
    by_cases c2 : k = g.j
    · rw [if_pos (e2.mpr c2),if_neg fun z=>ne ((f2.mp z).symm.trans c2),if_pos (f1.mpr c2)]
      show Sim fi fi' la (some ⟨mnQ (wq fi (w (nx nm g.j))) B,wnn (w (nx nm g.j)) + 1,g.d⟩) (some ⟨plQ (wq fi' (w' (nx oth g'.i))) (-B.1,B.2),wnn (w' (nx oth g'.i)) + 1,g'.d⟩)
      rw [ti, td]
      obtain ⟨l1, r1⟩ := lo_mn b1.pos lb.pos
      obtain ⟨l2, r2⟩ := lo_pl b2.pos lN.pos
      exact ⟨rfl,l1,l2,by show rv (plQ _ _) = rv (mnQ _ _) + _; rw [r1,r2,b3,rN]; grind,by show _ + 1 = _ + 1; rw [b4],day⟩
    · rw [if_neg fun z => c2 (e2.mp z)]
      by_cases c1 : k = g.i
      · rw [if_pos (e1.mpr c1), if_pos (f2.mpr c1)]
        show Sim fi fi' la (some ⟨plQ (wq fi (w (nx nm g.i))) B,wnn (w (nx nm g.i)) + 1,g.d⟩) (some ⟨mnQ (wq fi' (w' (nx oth g'.j))) (-B.1,B.2),wnn (w' (nx oth g'.j)) + 1,g'.d⟩)
        rw [tj, td]
        obtain ⟨l1, r1⟩ := lo_pl a1.pos lb.pos
        obtain ⟨l2, r2⟩ := lo_mn a2.pos lN.pos
        exact ⟨rfl,l1,l2,by show rv (mnQ _ _) = rv (plQ _ _) + _; rw [r1,r2,a3,rN]; grind,by show _ + 1 = _ + 1; rw [a4],day⟩
      · rw [if_neg fun z=>c1 (e1.mp z),if_neg fun z=>c1 (f2.mp z),if_neg fun z=>c2 (f1.mp z)]
        exact hw k hk
theorem sim_wst {so st fi fi' one two la:Int} {rows:List Rw} (gd:GoodT rows) (nb:Nb st one two) {nm oth:List Str} (nd:nm.Nodup) (nd':oth.Nodup) (ln:nm.length = oth.length):∀ {P P':List Ig} {w w':Wn},All2 (Twi la) P P'→(∀ g ∈ P,g.i < nm.length∧g.j < nm.length∧g.i ≠ g.j)→(∀ k,k < nm.length→Sim fi fi' la (w (nx nm k)) (w' (nx oth k))) →
    ∀ k,k < nm.length→Sim fi fi' la (wst so st fi one two rows w (P.map (nmd nm)) (nx nm k)) (wst so st fi' one two rows w' (P'.map (nmd oth)) (nx oth k))
  | _, _, _, _, .nil, _, hw => hw
  | g :: P, g' :: P', w, w', .cons t r, ok, hw => by
    obtain ⟨h1, h2, h3⟩ := ok g List.mem_cons_self
    exact sim_wst (P:=P) (P':=P') gd nb nd nd' ln r (fun x hx=>ok x (List.mem_cons_of_mem _ hx)) (sim_nxt gd nb nd nd' ln h1 h2 h3 t hw)
def ig0 : Ig := ⟨0, 0, 0, 0, 0⟩
def gi (gs : List Ig) (i : Nat) : Ig := gs.getD i ig0
theorem gi_get {gs:List Ig} {i:Nat} (h:i < gs.length):gs[i]? = some (gi gs i):=by
  unfold gi
  rw [List.getD_eq_getElem?_getD,List.getElem?_eq_getElem h]
  rfl
theorem gi_mem {gs:List Ig} {i:Nat} (h:i < gs.length):gi gs i ∈ gs:=List.mem_of_getElem? (gi_get h)
theorem gi_map (gs:List Ig):(List.range gs.length).map (gi gs) = gs:=by
  refine List.ext_getElem? fun i => ?_
  rw [List.getElem?_map]
  by_cases h : i < gs.length
  · rw [List.getElem?_range h, gi_get h]
    rfl
  · rw [List.getElem?_eq_none (by rw [List.length_range]; omega),List.getElem?_eq_none (by omega)]
    rfl
theorem dk_gi {f:Ig→Gm} (hf:∀ g,(f g).d = g.d) {gs:List Ig} {i:Nat} (h:i < gs.length):dk (gs.map f) i = (gi gs i).d:=by
  unfold dk
  rw [List.getElem?_map, gi_get h]
  exact hf _
theorem pg_gi {f:Ig→Gm} {gs:List Ig}:∀ {p:List Nat},(∀ i ∈ p,i < gs.length)→pg (gs.map f) p = (p.map (gi gs)).map f
  | [], _ => rfl
  | i :: p, h => by
    have hi := h i List.mem_cons_self
    have ih:=pg_gi (f:=f) (p:=p) fun j hj=>h j (List.mem_cons_of_mem _ hj)
    unfold pg at ih ⊢
    rw [List.filterMap_cons_some (b:=f (gi gs i)) (by rw [List.getElem?_map,gi_get hi]; rfl),ih]
    rfl
theorem all2_two {α β γ:Type} {R:β→γ→Prop} {f:α→β} {g:α→γ}:∀ {l:List α},(∀ x ∈ l,R (f x) (g x))→All2 R (l.map f) (l.map g)
  | [], _ => .nil
  | x :: l,h=>.cons (h x List.mem_cons_self) (all2_two fun y hy=>h y (List.mem_cons_of_mem _ hy))
def yx (ys : List Nat) (k : Nat) : Nat := ys.getD k 0
theorem yx_at {ys:List Nat} {k:Nat} (h:k < ys.length):ys[k] = yx ys k:=by
  unfold yx
  rw [List.getD_eq_getElem?_getD,List.getElem?_eq_getElem h]
  rfl
structure Otw (la:Int) (gs gs':List Ig) (ys:List Nat):Prop where
  pm : ys.Perm (List.range gs.length)
  pw:ys.Pairwise fun i j=>(gi gs i).d = (gi gs j).d→i < j
  ln : gs'.length = gs.length
  tw:∀ k,k < gs.length→Twi la (gi gs (yx ys k)) (gi gs' k)
theorem Otw.ly {la:Int} {gs gs':List Ig} {ys:List Nat} (h:Otw la gs gs' ys):ys.length = gs.length:=by
  have := h.pm.length_eq
  rwa [List.length_range] at this
theorem Otw.lt {la:Int} {gs gs':List Ig} {ys:List Nat} (h:Otw la gs gs' ys) {k:Nat} (hk:k < gs.length):yx ys k < gs.length:=by
  have hk' : k < ys.length := by rw [h.ly]; exact hk
  rw [← yx_at hk']
  exact List.mem_range.mp (h.pm.mem_iff.mp (List.getElem_mem hk'))
theorem otw_order {nm oth:List Str} {la:Int} {gs gs':List Ig} {ys p q:List Nat} (h:Otw la gs gs' ys) (hp:Stb (dk (gs.map (nmd nm))) (gs.map (nmd nm)).length p) (hq:Stb (dk (gs'.map (nmd oth))) (gs'.map (nmd oth)).length q) :
    ∃ P P',All2 (Twi la) P P'∧pg (gs.map (nmd nm)) p = P.map (nmd nm)∧pg (gs'.map (nmd oth)) q = P'.map (nmd oth)∧∀ g ∈ P,g ∈ gs:=by
  rw [List.length_map] at hp hq
  have hq1 : ∀ k ∈ q, k < gs.length := fun k hk => by
    rw [← h.ln]
    exact hq.2.1 k hk
  have st:Stb (dk (gs.map (nmd nm))) gs.length (q.map (yx ys)):=by
    refine ⟨by rw [List.length_map,hq.1,h.ln],fun i hi=>?_,List.pairwise_map.mpr (hq.2.2.imp_of_mem fun {a b} ha hb l=>?_)⟩
    · obtain ⟨k, hk, rfl⟩ := List.mem_map.mp hi
      exact h.lt (hq1 k hk)
    · have ha1 := hq1 a ha
      have hb1 := hq1 b hb
      have da := (h.tw a ha1).1
      have db := (h.tw b hb1).1
      have ea:dk (gs'.map (nmd oth)) a = (gi gs' a).d:=dk_gi (fun _=>rfl) (by rw [h.ln]; exact ha1)
      have eb:dk (gs'.map (nmd oth)) b = (gi gs' b).d:=dk_gi (fun _=>rfl) (by rw [h.ln]; exact hb1)
      have ea':dk (gs.map (nmd nm)) (yx ys a) = (gi gs (yx ys a)).d:=dk_gi (fun _=>rfl) (h.lt ha1)
      have eb':dk (gs.map (nmd nm)) (yx ys b) = (gi gs (yx ys b)).d:=dk_gi (fun _=>rfl) (h.lt hb1)
      rcases l with l | ⟨l, lt⟩
      · exact .inl (by omega)
      · refine .inr ⟨by omega, ?_⟩
        have la : a < ys.length := by rw [h.ly]; exact ha1
        have lb : b < ys.length := by rw [h.ly]; exact hb1
        have:=List.pairwise_iff_getElem.mp h.pw a b la lb lt
        rw [yx_at la, yx_at lb] at this
        exact this (by omega)
  have e := stb_uniq hp st
  refine ⟨q.map fun k=>gi gs (yx ys k),q.map (gi gs'),all2_two fun k hk=>h.tw k (hq1 k hk),?_,pg_gi fun k hk=>by rw [h.ln]; exact hq1 k hk,fun g hg=>?_⟩
  · rw [e, pg_gi fun i hi => st.2.1 i hi]
    congr 1
    rw [List.map_map]
    rfl
  · obtain ⟨k, hk, rfl⟩ := List.mem_map.mp hg
    exact gi_mem (h.lt (hq1 k hk))
def plays (gs:List Ig) (k:Nat):Bool:=gs.any fun g=>decide (g.i = k ∨ g.j = k)
theorem plays_iff {gs:List Ig} {k:Nat}:plays gs k = true ↔ ∃ g ∈ gs,g.i = k ∨ g.j = k:=by
  unfold plays
  rw [List.any_eq_true]
  exact ⟨fun ⟨g,h,c⟩=>⟨g,h,of_decide_eq_true c⟩,fun ⟨g,h,c⟩=>⟨g,h,decide_eq_true c⟩⟩
def GiOk (m:Nat) (gs:List Ig):Prop:=∀ g ∈ gs,g.i < m∧g.j < m∧g.i ≠ g.j
theorem plr_ix {nm:List Str} (nd:nm.Nodup) {gs:List Ig} (ok:GiOk nm.length gs):(plr (gs.map (nmd nm))).Perm (((List.range nm.length).filter (plays gs)).map (nx nm)):=by
  refine (List.perm_ext_iff_of_nodup (inc_nodup (inc_srt _)) (List.pairwise_map.mpr ?_)).mpr fun x=>?_
  · refine (List.nodup_range.filter _).imp_of_mem fun {a b} ha hb ne e=>ne ?_
    exact nx_inj nd (List.mem_range.mp (List.mem_filter.mp ha).1) (List.mem_range.mp (List.mem_filter.mp hb).1) e
  · show x ∈ Lw.plr _ ↔ _
    rw [mem_plr, List.mem_map]
    constructor
    · rintro ⟨g0, hg0, c⟩
      obtain ⟨g, hg, rfl⟩ := List.mem_map.mp hg0
      obtain ⟨h1, h2, _⟩ := ok g hg
      rcases c with c | c
      · exact ⟨g.i,List.mem_filter.mpr ⟨List.mem_range.mpr h1,plays_iff.mpr ⟨g,hg,.inl rfl⟩⟩,c.symm⟩
      · exact ⟨g.j,List.mem_filter.mpr ⟨List.mem_range.mpr h2,plays_iff.mpr ⟨g,hg,.inr rfl⟩⟩,c.symm⟩
    · rintro ⟨k, hk, rfl⟩
      obtain ⟨g,hg,c⟩:=plays_iff.mp (List.mem_filter.mp hk).2
      refine ⟨nmd nm g, List.mem_map.mpr ⟨g, hg, rfl⟩, ?_⟩
      rcases c with c | c
      · exact .inl (by rw [← c]; rfl)
      · exact .inr (by rw [← c]; rfl)
theorem plr_nx {nm:List Str} (nd:nm.Nodup) {gs:List Ig} (ok:GiOk nm.length gs) {x:Str} (h:x ∈ plr (gs.map (nmd nm))):∃ k,k < nm.length∧plays gs k = true∧x = nx nm k:=by
  obtain ⟨k,hk,e⟩:=List.mem_map.mp ((plr_ix nd ok).mem_iff.mp h)
  obtain ⟨h1, h2⟩ := List.mem_filter.mp hk
  exact ⟨k, List.mem_range.mp h1, h2, e.symm⟩
theorem nx_plr {nm:List Str} (nd:nm.Nodup) {gs:List Ig} (ok:GiOk nm.length gs) {k:Nat} (hk:k < nm.length) (h:plays gs k = true):nx nm k ∈ plr (gs.map (nmd nm)):=(plr_ix nd ok).mem_iff.mpr (List.mem_map.mpr ⟨k,List.mem_filter.mpr ⟨List.mem_range.mpr hk,h⟩,rfl⟩)
theorem Twi.plays {la:Int} {g g':Ig} (h:Twi la g g') {k:Nat}:(g'.i = k ∨ g'.j = k) ↔ (g.i = k ∨ g.j = k):=by
  obtain ⟨_, ⟨a, b, _⟩ | ⟨a, b, _⟩⟩ := h
  · rw [a, b]
  · rw [a, b]
    exact or_comm
theorem Otw.plays {la:Int} {gs gs':List Ig} {ys:List Nat} (h:Otw la gs gs' ys) (k:Nat):plays gs' k = plays gs k:=by
  rw [Bool.eq_iff_iff, plays_iff, plays_iff]
  constructor
  · rintro ⟨g, hg, c⟩
    obtain ⟨t, ht, rfl⟩ := List.getElem_of_mem hg
    have ht1 : t < gs.length := by rw [← h.ln]; exact ht
    have e : gs'[t] = gi gs' t := by
      have := gi_get ht
      rw [List.getElem?_eq_getElem ht] at this
      exact Option.some.inj this
    rw [e] at c
    exact ⟨_, gi_mem (h.lt ht1), (h.tw t ht1).plays.mp c⟩
  · rintro ⟨g, hg, c⟩
    obtain ⟨u, hu, rfl⟩ := List.getElem_of_mem hg
    have e : gs[u] = gi gs u := by
      have := gi_get hu
      rw [List.getElem?_eq_getElem hu] at this
      exact Option.some.inj this
    rw [e] at c
    obtain ⟨t,ht,et⟩:=List.getElem_of_mem (h.pm.mem_iff.mpr (List.mem_range.mpr hu))
    have ht1 : t < gs.length := by rw [← h.ly]; exact ht
    rw [yx_at ht] at et
    refine ⟨_,gi_mem (show t < gs'.length by rw [h.ln]; exact ht1),(h.tw t ht1).plays.mpr ?_⟩
    rw [et]
    exact c
theorem Otw.ok {la:Int} {gs gs':List Ig} {ys:List Nat} (h:Otw la gs gs' ys) {m:Nat} (ok:GiOk m gs):GiOk m gs':=fun g hg=>by
  obtain ⟨t, ht, rfl⟩ := List.getElem_of_mem hg
  have ht1 : t < gs.length := by rw [← h.ln]; exact ht
  have e : gs'[t] = gi gs' t := by
    have := gi_get ht
    rw [List.getElem?_eq_getElem ht] at this
    exact Option.some.inj this
  rw [e]
  obtain ⟨o1, o2, o3⟩ := ok _ (gi_mem (h.lt ht1))
  obtain ⟨_, ⟨a, b, _⟩ | ⟨a, b, _⟩⟩ := h.tw t ht1
  · rw [a, b]
    exact ⟨o1, o2, o3⟩
  · rw [a, b]
    exact ⟨o2, o1, Ne.symm o3⟩
theorem told_sim {so st fi fi' one two la:Int} {rows:List Rw} (gd:GoodT rows) (nb:Nb st one two) {nm oth:List Str} (nd:nm.Nodup) (nd':oth.Nodup) (ln:nm.length = oth.length) {gs gs':List Ig} {ys p q:List Nat} (ok:GiOk nm.length gs) (h:Otw la gs gs' ys) (hp:Stb (dk (gs.map (nmd nm))) (gs.map (nmd nm)).length p) (hq:Stb (dk (gs'.map (nmd oth))) (gs'.map (nmd oth)).length q) {k:Nat} (hk:k < nm.length) :
    Lo (wq fi' (wst so st fi' one two rows (fun _=>none) (pg (gs'.map (nmd oth)) q) (nx oth k)))∧rv (wq fi' (wst so st fi' one two rows (fun _=>none) (pg (gs'.map (nmd oth)) q) (nx oth k))) = rv (wq fi (wst so st fi one two rows (fun _=>none) (pg (gs.map (nmd nm)) p) (nx nm k))) + ((fi' - fi:Int):Rat):=by
  obtain ⟨P, P', a, e1, e2, sub⟩ := otw_order h hp hq
  have s:=sim_wst (so:=so) (w:=fun _=>none) (w':=fun _=>none) gd nb nd nd' ln a (fun g hg=>ok g (sub g hg)) (fun k _=>sim_none fi fi' la) k hk
  rw [e1, e2]
  exact ⟨s.2.2.1, s.2.2.2.1⟩
theorem told_len {la:Int} {nm oth:List Str} (nd:nm.Nodup) (nd':oth.Nodup) (ln:nm.length = oth.length) {gs gs':List Ig} {ys:List Nat} (ok:GiOk nm.length gs) (h:Otw la gs gs' ys):(plr (gs'.map (nmd oth))).length = (plr (gs.map (nmd nm))).length:=by
  rw [(plr_ix nd' (ln ▸ h.ok ok)).length_eq,(plr_ix nd ok).length_eq,List.length_map,List.length_map,ln,show plays gs' = plays gs from funext h.plays]
def mkA (S:Nat→Bool) (g:Ig):Nat→Bool:=fun k=>S k || decide (g.i = k ∨ g.j = k)
def mkP (S:Nat→Bool) (g:Ig):Nat→Bool:=if S g.i || S g.j then mkA S g else S
def rnd (B:List Ig) (S:Nat→Bool):Nat→Bool:=B.foldl mkP S
def rnds (B : List Ig) : Nat → (Nat → Bool) → Nat → Bool
  | 0, S => S
  | n + 1, S => rnd B (rnds B n S)
theorem mkP_up {S:Nat→Bool} {g:Ig} {k:Nat} (h:S k = true):mkP S g k = true:=by
  unfold mkP
  split
  · unfold mkA
    rw [h]
    rfl
  · exact h
theorem rnd_up:∀ {B:List Ig} {S:Nat→Bool} {k:Nat},S k = true→rnd B S k = true
  | [], _, _, h => h
  | g :: B,S,k,h=>rnd_up (B:=B) (S:=mkP S g) (mkP_up h)
def Shut (B:List Ig) (S:Nat→Bool):Prop:=∀ g ∈ B,S g.i = S g.j
theorem rnd_shut:∀ {B:List Ig} {S:Nat→Bool},Shut B S→rnd B S = S
  | [], _, _ => rfl
  | g :: B, S, h => by
    have e : mkP S g = S := by
      have hg := h g List.mem_cons_self
      unfold mkP
      split
      · rename_i c
        have c1 : S g.i = true := by
          rw [← hg, Bool.or_self] at c
          exact c
        funext k
        unfold mkA
        by_cases z : g.i = k ∨ g.j = k
        · rw [decide_eq_true z, Bool.or_true]
          rcases z with z | z
          · rw [← z, c1]
          · rw [← z, ← hg, c1]
        · rw [decide_eq_false z, Bool.or_false]
      · rfl
    show rnd B (mkP S g) = S
    rw [e]
    exact rnd_shut fun x hx=>h x (List.mem_cons_of_mem _ hx)
theorem rnd_hit:∀ {B:List Ig} {S:Nat→Bool} {g:Ig},g ∈ B→(S g.i || S g.j) = true→rnd B S g.i = true∧rnd B S g.j = true
  | x :: B, S, g, hg, c => by
    show rnd B (mkP S x) g.i = true∧rnd B (mkP S x) g.j = true
    rcases List.mem_cons.mp hg with e | hg
    · subst e
      have e : mkP S g = mkA S g := if_pos c
      rw [e]
      refine ⟨rnd_up ?_, rnd_up ?_⟩
      · unfold mkA
        rw [decide_eq_true (.inl rfl), Bool.or_true]
      · unfold mkA
        rw [decide_eq_true (.inr rfl), Bool.or_true]
    · refine rnd_hit hg ?_
      rw [Bool.or_eq_true] at c ⊢
      exact c.imp mkP_up mkP_up
theorem cnt_lt {S T:Nat→Bool}:∀ {l:List Nat},(∀ k,S k = true→T k = true)→(∃ k ∈ l,S k = false∧T k = true)→l.countP S + 1 ≤ l.countP T
  | x :: l, up, ⟨k, hk, h1, h2⟩ => by
    have mono:l.countP S ≤ l.countP T:=List.countP_mono_left fun y _ h=>up y h
    rw [List.countP_cons, List.countP_cons]
    rcases List.mem_cons.mp hk with e | hk
    · rw [← e, h1, h2]
      show _ + 0 + 1 ≤ _ + 1
      omega
    · have ih := cnt_lt up ⟨k, hk, h1, h2⟩
      by_cases c : S x = true
      · rw [if_pos c, if_pos (up x c)]
        omega
      · rw [if_neg c]
        omega
theorem rnds_shut {B:List Ig} {m:Nat} (ok:∀ g ∈ B,g.i < m∧g.j < m) (S:Nat→Bool):Shut B (rnds B m S):=by
  have key:∀ n,Shut B (rnds B n S) ∨ n ≤ (List.range m).countP (rnds B n S):=fun n=>by
    induction n with
    | zero => exact .inr (Nat.zero_le _)
    | succ n ih =>
      by_cases c : Shut B (rnds B n S)
      · refine .inl ?_
        show Shut B (rnd B (rnds B n S))
        rw [rnd_shut c]
        exact c
      · refine .inr ?_
        have ih := ih.resolve_left c
        obtain ⟨g,hg,ne⟩:∃ g ∈ B,rnds B n S g.i ≠ rnds B n S g.j:=by
          refine Classical.byContradiction fun z=>c fun g hg=>?_
          exact Classical.byContradiction fun z'=>z ⟨g,hg,z'⟩
        obtain ⟨o1, o2⟩ := ok g hg
        have hit:(rnds B n S g.i || rnds B n S g.j) = true:=by
          cases e1:rnds B n S g.i <;> cases e2:rnds B n S g.j
          · rw [e1, e2] at ne
            exact absurd rfl ne
          · rfl
          · rfl
          · rfl
        obtain ⟨t1, t2⟩ := rnd_hit hg hit
        have:(List.range m).countP (rnds B n S) + 1 ≤ (List.range m).countP (rnd B (rnds B n S)):=by
          refine cnt_lt (fun k h => rnd_up h) ?_
          cases e1 : rnds B n S g.i
          · exact ⟨g.i, List.mem_range.mpr o1, e1, t1⟩
          · refine ⟨g.j, List.mem_range.mpr o2, ?_, t2⟩
            cases e2 : rnds B n S g.j
            · rfl
            · rw [e1, e2] at ne
              exact absurd rfl ne
        show n + 1 ≤ (List.range m).countP (rnd B (rnds B n S))
        omega
  rcases key m with h | h
  · exact h
  · have le:(List.range m).countP (rnds B m S) ≤ (List.range m).length:=List.countP_le_length
    rw [List.length_range] at le
    have all:∀ k ∈ List.range m,rnds B m S k = true:=List.countP_eq_length.mp (by rw [List.length_range]; omega)
    intro g hg
    obtain ⟨o1, o2⟩ := ok g hg
    rw [all _ (List.mem_range.mpr o1),all _ (List.mem_range.mpr o2)]
theorem rnds_up {B:List Ig} {S:Nat→Bool} {k:Nat} (h:S k = true):∀ n,rnds B n S k = true
  | 0 => h
  | n + 1 => rnd_up (rnds_up h n)
theorem gbit_at {so st fi one two:Int} {rows:List Rw} {w w':Wn} {g:Gm} (h1:w g.a = w' g.a) (h2:w g.b = w' g.b):gbit so st fi one two rows w g = gbit so st fi one two rows w' g:=by
  unfold gbit
  rw [h1, h2]
theorem apart_wst {so st fi one two:Int} {rows:List Rw} {nm:List Str} (nd:nm.Nodup) {S:Nat→Bool}:∀ {P:List Ig} {w w':Wn},(∀ g ∈ P,g.i < nm.length∧g.j < nm.length)→Shut P S→(∀ k,k < nm.length→S k = false→w (nx nm k) = w' (nx nm k)) →
    ∀ k,k < nm.length→S k = false→wst so st fi one two rows w (P.map (nmd nm)) (nx nm k) = wst so st fi one two rows w' (P.map (nmd nm)) (nx nm k)
  | [], _, _, _, _, hw => hw
  | g :: P, w, w', ok, sh, hw => by
    refine apart_wst (P:=P) nd (fun x hx=>ok x (List.mem_cons_of_mem _ hx)) (fun x hx=>sh x (List.mem_cons_of_mem _ hx)) fun k hk hS=>?_
    obtain ⟨o1, o2⟩ := ok g List.mem_cons_self
    have hg := sh g List.mem_cons_self
    have e1:nx nm k = (nmd nm g).a ↔ k = g.i:=⟨fun h=>nx_inj nd hk o1 h,fun h=>by rw [h]; rfl⟩
    have e2:nx nm k = (nmd nm g).b ↔ k = g.j:=⟨fun h=>nx_inj nd hk o2 h,fun h=>by rw [h]; rfl⟩
    cases c : S g.i
    · have h1:w (nmd nm g).a = w' (nmd nm g).a:=hw g.i o1 c
      have h2:w (nmd nm g).b = w' (nmd nm g).b:=hw g.j o2 (by rw [← hg]; exact c)
      unfold nxt
      rw [gbit_at h1 h2, h1, h2, hw k hk hS]
    · have n1:k ≠ g.i:=fun z=>by rw [z,c] at hS; cases hS
      have n2:k ≠ g.j:=fun z=>by rw [z,← hg,c] at hS; cases hS
      unfold nxt
      rw [if_neg fun z=>n2 (e2.mp z),if_neg fun z=>n1 (e1.mp z),if_neg fun z=>n2 (e2.mp z),if_neg fun z=>n1 (e1.mp z)]
      exact hw k hk hS
theorem part_order {f:Ig→Gm} (hf:∀ g,(f g).d = g.d) {gs:List Ig} {D:Int} {p q:List Nat} (hp:Stb (dk (gs.map f)) (gs.map f).length p) (hq:Stb (dk ((gs.filter fun g=>decide (D ≤ g.d)).map f)) ((gs.filter fun g=>decide (D ≤ g.d)).map f).length q) :
    ∃ A B:List Ig,pg (gs.map f) p = A.map f ++ B.map f∧(∀ g ∈ A,g ∈ gs∧g.d < D)∧pg ((gs.filter fun g=>decide (D ≤ g.d)).map f) q = B.map f∧∀ g ∈ B,g ∈ gs∧D ≤ g.d:=by
  rw [List.length_map] at hp hq
  obtain ⟨ix,hix⟩:∃ ix,ix = (List.range gs.length).filter fun i=>decide (D ≤ (gi gs i).d):=⟨_,rfl⟩
  have eF:gs.filter (fun g=>decide (D ≤ g.d)) = ix.map (gi gs):=by
    have:gs.filter (fun g=>decide (D ≤ g.d)) = ((List.range gs.length).map (gi gs)).filter fun g=>decide (D ≤ g.d):=by rw [gi_map]
    rw [this, List.filter_map, hix]
    rfl
  have mix:∀ i ∈ ix,i < gs.length∧D ≤ (gi gs i).d:=fun i hi=>by
    rw [hix] at hi
    obtain ⟨h1, h2⟩ := List.mem_filter.mp hi
    exact ⟨List.mem_range.mp h1, of_decide_eq_true h2⟩
  have inc : ix.Pairwise (· < ·) := by
    rw [hix]
    exact List.pairwise_lt_range.filter _
  have lF:(gs.filter fun g=>decide (D ≤ g.d)).length = ix.length:=by rw [eF,List.length_map]
  have hq1:∀ k ∈ q,k < ix.length:=fun k hk=>by rw [← lF]; exact hq.2.1 k hk
  have giF:∀ k,k < ix.length→gi (gs.filter fun g=>decide (D ≤ g.d)) k = gi gs (yx ix k):=fun k hk=>by
    have h1:=gi_get (gs:=gs.filter fun g=>decide (D ≤ g.d)) (i:=k) (by rw [lF]; exact hk)
    rw [← yx_at hk]
    have h2:(gs.filter fun g=>decide (D ≤ g.d))[k]? = some (gi gs ix[k]):=by
      rw [eF,List.getElem?_map,List.getElem?_eq_getElem hk]
      rfl
    exact Option.some.inj (h1.symm.trans h2)
  have key:∀ i,i < gs.length→dk (gs.map f) i = (gi gs i).d:=fun i hi=>dk_gi hf hi
  have pq:(q.map (yx ix)).Pairwise (Lt (dk (gs.map f))):=List.pairwise_map.mpr (hq.2.2.imp_of_mem fun {a b} ha hb l=>by
    have la := hq1 a ha
    have lb := hq1 b hb
    have ea:=dk_gi hf (gs:=gs.filter fun g=>decide (D ≤ g.d)) (i:=a) (by rw [lF]; exact la)
    have eb:=dk_gi hf (gs:=gs.filter fun g=>decide (D ≤ g.d)) (i:=b) (by rw [lF]; exact lb)
    rw [giF a la] at ea
    rw [giF b lb] at eb
    have ka:=key (yx ix a) (mix _ (by rw [← yx_at la]; exact List.getElem_mem la)).1
    have kb:=key (yx ix b) (mix _ (by rw [← yx_at lb]; exact List.getElem_mem lb)).1
    rcases l with l | ⟨l, lt⟩
    · exact .inl (by omega)
    · refine .inr ⟨by omega, ?_⟩
      have := List.pairwise_iff_getElem.mp inc a b la lb lt
      rw [yx_at la, yx_at lb] at this
      exact this)
  have pmq : (q.map (yx ix)).Perm ix := by
    have h1 := (stb_rng' hq).map (yx ix)
    rw [lF] at h1
    refine h1.trans (.of_eq ?_)
    refine List.ext_getElem (by simp) fun i h1 h2 => ?_
    rw [List.getElem_map, List.getElem_range]
    exact (yx_at h2).symm
  have pmp:(p.filter fun i=>decide (D ≤ (gi gs i).d)).Perm ix:=by
    rw [hix]
    exact (stb_rng' hp).filter _
  have eB:p.filter (fun i=>decide (D ≤ (gi gs i).d)) = q.map (yx ix):=by
    refine List.Perm.eq_of_pairwise (le:=Lt (dk (gs.map f))) (fun a b _ _ l l'=>?_) (hp.2.2.filter _) pq (pmp.trans pmq.symm)
    rcases l with l | ⟨e, l⟩
    · rcases l' with l' | ⟨e', l'⟩ <;> omega
    · rcases l' with l' | ⟨e', l'⟩ <;> omega
  have sp:∀ (l:List Nat),(∀ i ∈ l,i < gs.length)→l.Pairwise (Lt (dk (gs.map f)))→l = l.filter (fun i=>decide (¬ D ≤ (gi gs i).d)) ++ l.filter fun i=>decide (D ≤ (gi gs i).d):=fun l=>by
    induction l with
    | nil => exact fun _ _ => rfl
    | cons i l ih =>
      intro hl pl
      obtain ⟨p1, p2⟩ := List.pairwise_cons.mp pl
      have ih:=ih (fun j hj=>hl j (List.mem_cons_of_mem _ hj)) p2
      by_cases c : D ≤ (gi gs i).d
      · have all:∀ j ∈ l,D ≤ (gi gs j).d:=fun j hj=>by
          have k1 := key i (hl i List.mem_cons_self)
          have k2:=key j (hl j (List.mem_cons_of_mem _ hj))
          rcases p1 j hj with z | ⟨z, _⟩ <;> omega
        rw [List.filter_cons_of_neg (by simpa using c),List.filter_cons_of_pos (by simpa using c),List.filter_eq_nil_iff.mpr fun j hj=>by simpa using all j hj,List.filter_eq_self.mpr fun j hj=>by simpa using all j hj]
        rfl
      · rw [List.filter_cons_of_pos (by simpa using c),List.filter_cons_of_neg (by simpa using c)]
        show i :: l = i :: (_ ++ _)
        rw [← ih]
  have e := sp p hp.2.1 hp.2.2
  refine ⟨(p.filter fun i=>decide (¬ D ≤ (gi gs i).d)).map (gi gs),(q.map (yx ix)).map (gi gs),?_,fun g hg=>?_,?_,fun g hg=>?_⟩
  · rw [pg_gi hp.2.1,← List.map_append,← List.map_append,← eB,← e]
  · obtain ⟨i, hi, rfl⟩ := List.mem_map.mp hg
    obtain ⟨h1, h2⟩ := List.mem_filter.mp hi
    have h2 : ¬ D ≤ (gi gs i).d := of_decide_eq_true h2
    exact ⟨gi_mem (hp.2.1 i h1), by omega⟩
  · rw [pg_gi fun k hk=>by rw [lF]; exact hq1 k hk,List.map_map (f:=yx ix)]
    congr 1
    exact List.map_congr_left fun k hk => giF k (hq1 k hk)
  · obtain ⟨i, hi, rfl⟩ := List.mem_map.mp hg
    have := mix i (pmq.mem_iff.mp hi)
    exact ⟨gi_mem this.1, this.2⟩
theorem part_told {so st fi one two:Int} {rows:List Rw} {nm:List Str} (nd:nm.Nodup) {gs:List Ig} (ok:GiOk nm.length gs) {D:Int} {p q:List Nat} {S0:Nat→Bool} (hS:∀ k,plays (gs.filter fun g=>decide (g.d < D)) k = true→S0 k = true) (hp:Stb (dk (gs.map (nmd nm))) (gs.map (nmd nm)).length p) (hq:Stb (dk ((gs.filter fun g=>decide (D ≤ g.d)).map (nmd nm))) ((gs.filter fun g=>decide (D ≤ g.d)).map (nmd nm)).length q) {k:Nat} (hk:k < nm.length) (hn:rnds (gs.filter fun g=>decide (D ≤ g.d)) nm.length S0 k = false) :
    wst so st fi one two rows (fun _=>none) (pg (gs.map (nmd nm)) p) (nx nm k) = wst so st fi one two rows (fun _=>none) (pg ((gs.filter fun g=>decide (D ≤ g.d)).map (nmd nm)) q) (nx nm k):=by
  obtain ⟨A,B,e1,hA,e2,hB⟩:=part_order (f:=nmd nm) (fun _=>rfl) hp hq
  have sh:=rnds_shut (B:=gs.filter fun g=>decide (D ≤ g.d)) (m:=nm.length) (fun g hg=>by
    obtain ⟨h1, h2, _⟩ := ok g (List.mem_filter.mp hg).1
    exact ⟨h1, h2⟩) S0
  rw [e1, e2]
  have ea:wst so st fi one two rows (fun _=>none) (A.map (nmd nm) ++ B.map (nmd nm)) = wst so st fi one two rows (wst so st fi one two rows (fun _=>none) (A.map (nmd nm))) (B.map (nmd nm)):=by
    unfold wst
    rw [List.foldl_append]
  rw [ea]
  refine apart_wst nd (fun g hg=>?_) (fun g hg=>?_) (fun k hk hn=>?_) k hk hn
  · obtain ⟨h1, h2, _⟩ := ok g (hB g hg).1
    exact ⟨h1, h2⟩
  · exact sh g (List.mem_filter.mpr ⟨(hB g hg).1,decide_eq_true (hB g hg).2⟩)
  · refine wst_none fun ⟨g0, hg0, c⟩ => ?_
    obtain ⟨g, hg, rfl⟩ := List.mem_map.mp hg0
    obtain ⟨h1, h2⟩ := hA g hg
    obtain ⟨o1, o2, _⟩ := ok g h1
    have:plays (gs.filter fun g=>decide (g.d < D)) k = true:=plays_iff.mpr ⟨g,List.mem_filter.mpr ⟨h1,decide_eq_true h2⟩,by
      rcases c with c | c
      · exact .inl (nx_inj nd hk o1 c).symm
      · exact .inr (nx_inj nd hk o2 c).symm⟩
    rw [rnds_up (hS k this)] at hn
    cases hn
theorem other_ne {n one t:Int} (h:2 ≤ n) (h0:0 ≤ one) (h1:one < n) (t0:0 ≤ t) (t1:t < n - 1):0 ≤ (one + 1 + t) % n∧(one + 1 + t) % n < n∧(one + 1 + t) % n ≠ one:=by
  have a:=Int.emod_nonneg (one + 1 + t) (show n ≠ 0 by omega)
  have b:=Int.emod_lt_of_pos (one + 1 + t) (show 0 < n by omega)
  refine ⟨a, b, fun c => ?_⟩
  by_cases d : one + 1 + t < n
  · rw [Int.emod_eq_of_lt (by omega) d] at c
    omega
  · have e : (one + 1 + t) % n = one + 1 + t - n := by
      rw [← Int.sub_emod_right]
      exact Int.emod_eq_of_lt (by omega) (by omega)
    omega
def sp_l_game (K:PySem.W.Frag) (ns:List Int):Sp:=fun vs H Q _=>match vs with
  | [.int c,.int m,.int ds]=>(2 ≤ m∧1 ≤ ds)∧∀ v (g:Ig) H',Same H H'→IgAt H' v g→(g.i:Int) < m→(g.j:Int) < m→g.i ≠ g.j→0 ≤ g.h→g.h ≤ 2→Q v H'
  | _ => False
theorem sc_l_game:FnScope ["_law_cell_here","_law_many","_law_days","_law_one","_law_other"] ["_law_cell_here","_law_many","_law_days"] (defScope s_l_game):=⟨rfl,rfl,rfl,by decide +kernel,rfl,by decide +kernel,by decide +kernel⟩
theorem ok_l_game (d:Dfn K mg "_law_game" s_l_game ["_law_cell_here","_law_many","_law_days"]) (er:Errs K mg c_Capped c_Early c_NoTable c_Rested c_Rule)   :Cal P w K mg base "_law_game" ["_law_cell_here","_law_many","_law_days"] 1 (sp_l_game K ns):=by
  refine d.cal (k:=0) sc_l_game (fun vs H Q E h=>?_) (fun f cdv A outer s H vs Q E hr h=>?_)
  · match vs, h with
    | [.int c, .int m, .int ds], _ => rfl
  · match vs, h with
    | [.int c, .int m, .int ds], hq0 =>
      obtain ⟨⟨m2, d1⟩, k⟩ := hq0
      refine ⟨_,(@ss_cutE _ _ _ _ _ (@ps_set _ _ (3) _ _ _ _ sc_l_game.nd rfl (by first | exact Or.inl rfl | exact Or.inr rfl) (@pe_op _ _ _ _ _ _ _ _ o_mod (dv 0) (dv 1)) (by rfl) (by first | exact .inl rfl | exact .inr rfl | assumption)) (@ss_cutE _ _ _ _ _ (@ps_set _ _ (4) _ _ _ _ sc_l_game.nd rfl (by first | exact Or.inl rfl | exact Or.inr rfl) (@pe_op _ _ _ _ _ _ _ _ o_mod (@pe_op _ _ _ _ _ _ _ _ o_add (@pe_op _ _ _ _ _ _ _ _ o_add (dv 3) pe_int) (@pe_op _ _ _ _ _ _ _ _ o_mod (@pe_op _ _ _ _ _ _ _ _ o_div (dv 0) pe_int) (@pe_op _ _ _ _ _ _ _ _ o_sub (dv 1) pe_int))) (dv 1)) (by rfl) (by first | exact .inl rfl | exact .inr rfl | assumption)) (@pss_one _ _ _ (@ps_ret _ _ _ _ (@e_tup _ _ _ _ _ (@pa_cons _ _ _ _ _ (@pe_op _ _ _ _ _ _ _ _ o_mod (@pe_op _ _ _ _ _ _ _ _ o_div (dv 0) pe_int) (dv 2)) (@pa_cons _ _ _ _ _ (dv 3) (@pa_cons _ _ _ _ _ (dv 4) (@pa_cons _ _ _ _ _ (@pe_op _ _ _ _ _ _ _ _ o_mod (@pe_op _ _ _ _ _ _ _ _ o_div (dv 0) pe_int) pe_int) (@pa_cons _ _ _ _ _ (@pe_op _ _ _ _ _ _ _ _ o_sub (@pe_op _ _ _ _ _ _ _ _ o_mod (@pe_op _ _ _ _ _ _ _ _ o_div (dv 0) pe_int) pe_int) pe_int) pa_nil (by rfl)) (by rfl)) (by rfl)) (by rfl)) (by rfl))))))),?_⟩
      refine ⟨fun σ H'=>∃ i:Nat,σ = [some (.int c),some (.int m),some (.int ds),some (.int (i:Int)),none]∧H' = H∧(i:Int) < m,?_,?_⟩
      · have z0 := Int.emod_nonneg c (show m ≠ 0 by omega)
        have z1:=Int.emod_lt_of_pos c (show 0 < m by omega)
        refine ⟨by show 0 < m; omega,(c % m).toNat,?_,rfl,by omega⟩
        rw [Int.toNat_of_nonneg z0]
        rfl
      rintro σ H' ⟨i, rfl, rfl, il⟩
      refine ⟨fun σ H1=>∃ j:Nat,σ = [some (.int c),some (.int m),some (.int ds),some (.int (i:Int)),some (.int (j:Int))]∧H1 = H'∧(j:Int) < m∧j ≠ i,?_,?_⟩
      · have z0:=Int.emod_nonneg (c / 8) (show m - 1 ≠ 0 by omega)
        have z1:=Int.emod_lt_of_pos (c / 8) (show 0 < m - 1 by omega)
        obtain ⟨y0,y1,y2⟩:=other_ne (n:=m) (one:=i) m2 (by omega) il z0 z1
        refine ⟨⟨by decide,bd_lit rfl⟩,by show 0 < m - 1; omega,by show 0 < m; omega,(((i:Int) + 1 + c / 8 % (m - 1)) % m).toNat,?_,rfl,by omega,by omega⟩
        rw [Int.toNat_of_nonneg y0]
        rfl
      rintro σ H1 ⟨j, rfl, rfl, jl, ne⟩
      have w0:=Int.emod_nonneg (c / 7) (show (3:Int) ≠ 0 by decide)
      have w1:=Int.emod_lt_of_pos (c / 7) (show (0:Int) < 3 by decide)
      refine ⟨⟨by decide,bd_lit rfl⟩,by show 0 < ds; omega,⟨by decide,bd_lit rfl⟩,(by show (0:Int) < 3; decide),⟨by decide,bd_lit rfl⟩,(by show (0:Int) < 3; decide),fun T H2 s2 e2=>?_⟩
      exact k (.ref T) ⟨c / 56 % ds,i,j,c / 7 % 3,c / 5 % 3 - 1⟩ H2 s2 ⟨T,rfl,e2⟩ il jl (Ne.symm ne) w0 (by show c / 7 % 3 ≤ 2; omega)
theorem nx_at {nm:List Str} {k:Nat} (h:k < nm.length):atI (nm.map V.str) (k:Int) = some (.str (nx nm k)):=by
  refine atI_nat ?_
  rw [List.getElem?_map, nx_get h]
  rfl
def sp_l_named (K:PySem.W.Frag) (ns:List Int):Sp:=fun vs H Q _=>match vs with
  | [.ref p,.ref L]=>∃ (g:Ig) (nm:List Str),(H p = some (.tup [.int g.d,.int (g.i:Int),.int (g.j:Int),.int g.h,.int g.s])∧H L = some (.lst (nm.map V.str))∧g.i < nm.length∧g.j < nm.length)∧∀ v H',Same H H'→GmAt H' v (nmd nm g)→Q v H'
  | _ => False
theorem sc_l_named:FnScope ["_law_played","_law_names_here","_law_day","_law_one","_law_other","_law_halves","_law_side"] ["_law_played","_law_names_here"] (defScope s_l_named):=⟨rfl,rfl,rfl,by decide +kernel,rfl,by decide +kernel,by decide +kernel⟩
theorem ok_l_named (d:Dfn K mg "_law_named" s_l_named ["_law_played","_law_names_here"]) (er:Errs K mg c_Capped c_Early c_NoTable c_Rested c_Rule)   :Cal P w K mg base "_law_named" ["_law_played","_law_names_here"] 1 (sp_l_named K ns):=by
  refine d.cal (k:=0) sc_l_named (fun vs H Q E h=>?_) (fun f cdv A outer s H vs Q E hr h=>?_)
  · match vs, h with
    | [.ref p, .ref L], _ => rfl
  · match vs, h with
    | [.ref p, .ref L], hq0 =>
      obtain ⟨g, nm, ⟨hp, hL, hi, hj⟩, k⟩ := hq0
      refine ⟨_,(@pss_cons _ _ _ _ _ (@ps_asg _ _ _ _ _ _ (dv 0) (@pg_tup _ _ _ _ _ _ rfl (@pgs_cons _ _ _ _ _ (@pg_name _ _ (2) _ sc_l_named.nd rfl (by first | exact Or.inl rfl | exact Or.inr rfl) (by first | exact .inl rfl | exact .inr rfl | assumption)) (@pgs_cons _ _ _ _ _ (@pg_name _ _ (3) _ sc_l_named.nd rfl (by first | exact Or.inl rfl | exact Or.inr rfl) (by first | exact .inl rfl | exact .inr rfl | assumption)) (@pgs_cons _ _ _ _ _ (@pg_name _ _ (4) _ sc_l_named.nd rfl (by first | exact Or.inl rfl | exact Or.inr rfl) (by first | exact .inl rfl | exact .inr rfl | assumption)) (@pgs_cons _ _ _ _ _ (@pg_name _ _ (5) _ sc_l_named.nd rfl (by first | exact Or.inl rfl | exact Or.inr rfl) (by first | exact .inl rfl | exact .inr rfl | assumption)) (@pgs_cons _ _ _ _ _ (@pg_name _ _ (6) _ sc_l_named.nd rfl (by first | exact Or.inl rfl | exact Or.inr rfl) (by first | exact .inl rfl | exact .inr rfl | assumption)) pgs_nil (by rfl)) (by rfl)) (by rfl)) (by rfl)) (by rfl)) (by rfl) (by rfl)) (by rfl) (by rfl) (by rfl)) (@pss_one _ _ _ (@ps_ret _ _ _ _ (@e_tup _ _ _ _ _ (@pa_cons _ _ _ _ _ (dv 2) (@pa_cons _ _ _ _ _ (@pe_ix _ _ _ _ _ _ _ (show IxR _ (dIxL K) from i_lst) (dv 1) (dv 3) (fun _ _=>rfl)) (@pa_cons _ _ _ _ _ (@pe_ix _ _ _ _ _ _ _ (show IxR _ (dIxL K) from i_lst) (dv 1) (dv 4) (fun _ _=>rfl)) (@pa_cons _ _ _ _ _ (dv 5) (@pa_cons _ _ _ _ _ (dv 6) pa_nil (by rfl)) (by rfl)) (by rfl)) (by rfl)) (by rfl)))))),?_⟩
      exact ⟨p,_,rfl,SqT.of hp,rfl,_,_,rfl,_,_,rfl,_,_,rfl,_,_,rfl,_,_,rfl,rfl,_,_,SqL.of hL,nx_at hi,_,_,SqL.of hL,nx_at hj,fun T H2 s2 e2=>k (.ref T) H2 s2 ⟨T,rfl,e2⟩⟩
def sp_l_otherwise (K:PySem.W.Frag) (ns:List Int):Sp:=fun vs H Q _=>match vs with
  | [.ref p,.int c,.int la]=>∃ g:Ig,H p = some (.tup [.int g.d,.int (g.i:Int),.int (g.j:Int),.int g.h,.int g.s])∧∀ v g' H',Same H H'→IgAt H' v g'→Twi la g g'→Q v H'
  | _ => False
theorem sc_l_otherwise:FnScope ["_law_played","_law_cell_here","_law_later","_law_day","_law_one","_law_other","_law_halves","_law_side"] ["_law_played","_law_cell_here","_law_later"] (defScope s_l_otherwise):=⟨rfl,rfl,rfl,by decide +kernel,rfl,by decide +kernel,by decide +kernel⟩
theorem ok_l_otherwise (d:Dfn K mg "_law_otherwise" s_l_otherwise ["_law_played","_law_cell_here","_law_later"]) (er:Errs K mg c_Capped c_Early c_NoTable c_Rested c_Rule)   :Cal P w K mg base "_law_otherwise" ["_law_played","_law_cell_here","_law_later"] 1 (sp_l_otherwise K ns):=by
  refine d.cal (k:=0) sc_l_otherwise (fun vs H Q E h=>?_) (fun f cdv A outer s H vs Q E hr h=>?_)
  · match vs, h with
    | [.ref p, .int c, .int la], _ => rfl
  · match vs, h with
    | [.ref p, .int c, .int la], hq0 =>
      obtain ⟨g, hp, k⟩ := hq0
      refine ⟨_,(@pss_cons _ _ _ _ _ (@ps_asg _ _ _ _ _ _ (dv 0) (@pg_tup _ _ _ _ _ _ rfl (@pgs_cons _ _ _ _ _ (@pg_name _ _ (3) _ sc_l_otherwise.nd rfl (by first | exact Or.inl rfl | exact Or.inr rfl) (by first | exact .inl rfl | exact .inr rfl | assumption)) (@pgs_cons _ _ _ _ _ (@pg_name _ _ (4) _ sc_l_otherwise.nd rfl (by first | exact Or.inl rfl | exact Or.inr rfl) (by first | exact .inl rfl | exact .inr rfl | assumption)) (@pgs_cons _ _ _ _ _ (@pg_name _ _ (5) _ sc_l_otherwise.nd rfl (by first | exact Or.inl rfl | exact Or.inr rfl) (by first | exact .inl rfl | exact .inr rfl | assumption)) (@pgs_cons _ _ _ _ _ (@pg_name _ _ (6) _ sc_l_otherwise.nd rfl (by first | exact Or.inl rfl | exact Or.inr rfl) (by first | exact .inl rfl | exact .inr rfl | assumption)) (@pgs_cons _ _ _ _ _ (@pg_name _ _ (7) _ sc_l_otherwise.nd rfl (by first | exact Or.inl rfl | exact Or.inr rfl) (by first | exact .inl rfl | exact .inr rfl | assumption)) pgs_nil (by rfl)) (by rfl)) (by rfl)) (by rfl)) (by rfl)) (by rfl) (by rfl)) (by rfl) (by rfl) (by rfl)) (@pss_cons _ _ _ _ _ (@s_if _ _ _ _ _ _ _ _ (@t_cmp _ _ _ _ _ _ _ _ o_eq (@pe_op _ _ _ _ _ _ _ _ o_mod (dv 1) pe_int) pe_int (@nomark _ _ (by decide) (by decide))) (@pss_one _ _ _ (@ps_ret _ _ _ _ (@e_tup _ _ _ _ _ (@pa_cons _ _ _ _ _ (@pe_op _ _ _ _ _ _ _ _ o_add (dv 3) (dv 2)) (@pa_cons _ _ _ _ _ (dv 5) (@pa_cons _ _ _ _ _ (dv 4) (@pa_cons _ _ _ _ _ (@pe_op _ _ _ _ _ _ _ _ o_sub pe_int (dv 6)) (@pa_cons _ _ _ _ _ (@pe_op _ _ _ _ _ _ _ _ o_sub (@pe_op _ _ _ _ _ _ _ _ o_mod (@pe_op _ _ _ _ _ _ _ _ o_add (dv 7) (@pe_op _ _ _ _ _ _ _ _ o_div (dv 1) pe_int)) pe_int) pe_int) pa_nil (by rfl)) (by rfl)) (by rfl)) (by rfl)) (by rfl))))) pss_nil) (@pss_one _ _ _ (@ps_ret _ _ _ _ (@e_tup _ _ _ _ _ (@pa_cons _ _ _ _ _ (@pe_op _ _ _ _ _ _ _ _ o_add (dv 3) (dv 2)) (@pa_cons _ _ _ _ _ (dv 4) (@pa_cons _ _ _ _ _ (dv 5) (@pa_cons _ _ _ _ _ (dv 6) (@pa_cons _ _ _ _ _ (@pe_op _ _ _ _ _ _ _ _ o_sub (@pe_op _ _ _ _ _ _ _ _ o_mod (@pe_op _ _ _ _ _ _ _ _ o_add (dv 7) (@pe_op _ _ _ _ _ _ _ _ o_div (dv 1) pe_int)) pe_int) pe_int) pa_nil (by rfl)) (by rfl)) (by rfl)) (by rfl)) (by rfl))))))),?_⟩
      refine ⟨p,_,rfl,SqT.of hp,rfl,_,_,rfl,_,_,rfl,_,_,rfl,_,_,rfl,_,_,rfl,rfl,(by show (0:Int) < 2; decide),⟨fun _=>?_,fun _=>?_⟩⟩
      · exact ⟨⟨by decide,bd_lit rfl⟩,(by show (0:Int) < 3; decide),fun T H2 s2 e2=>k (.ref T) ⟨g.d + la,g.j,g.i,2 - g.h,(g.s + c / 2) % 3 - 1⟩ H2 s2 ⟨T,rfl,e2⟩ ⟨rfl,.inr ⟨rfl,rfl,rfl⟩⟩⟩
      · exact ⟨⟨by decide,bd_lit rfl⟩,(by show (0:Int) < 3; decide),fun T H2 s2 e2=>k (.ref T) ⟨g.d + la,g.i,g.j,g.h,(g.s + c / 2) % 3 - 1⟩ H2 s2 ⟨T,rfl,e2⟩ ⟨rfl,.inl ⟨rfl,rfl,rfl⟩⟩⟩
def dListN (K:PySem.W.Frag):List V→Hp→VK→Prop:=fun xs H Q=>match xs with
  | [.ref p]=>∃ ys,(SqL K H p ys ∨ SqT K H p ys)∧∀ l,H l = none→Q (.ref l) (upd H l (.lst ys))
  | _ => False
theorem c_listN {X:Cx}:CallR X (.type "list") (dListN X.K):=by
  intro pins s σ H xs us Q I r h
  match xs, h with
  | [.ref p],⟨ys,h1,q⟩=>exact call_list_of pins s σ H _ us Q I r ⟨p,ys,rfl,h1,fun l hl=>q l hl⟩
def igd (g:Ig):PyData:=.tuple [.int g.d,.int (g.i:Int),.int (g.j:Int),.int g.h,.int g.s]
theorem cl_ig:∀ (gs:List Ig),PyData.canLayAll0 (gs.map igd) = true
  | [] => rfl
  | g :: gs => by
    show (true && PyData.canLayAll0 (gs.map igd)) = true
    rw [cl_ig gs]
    rfl
theorem dp_ig:∀ (gs:List Ig),PyData.depthAll (gs.map igd) ≤ 1
  | [] => Nat.zero_le _
  | g :: gs => by
    have z : (igd g).depth = 1 := rfl
    show max (igd g).depth (PyData.depthAll (gs.map igd)) ≤ 1
    rw [z]
    have := dp_ig gs
    omega
theorem sh_ig (gs:List Ig):SeqAt.shaped (.list (gs.map igd)) = true:=by
  unfold SeqAt.shaped
  have e:(PyData.list (gs.map igd)).depth = PyData.depthAll (gs.map igd) + 1:=rfl
  have := dp_ig gs
  rw [show (PyData.list (gs.map igd)).canLay0 = true from cl_ig gs,e,Bool.true_and]
  exact decide_eq_true (by omega)
theorem rp_ig {K:PySem.W.Frag} {H:Hp} {v:V} {g:Ig} (h:IgAt H v g):Rp K H v (igd g):=by
  obtain ⟨p, e, h⟩ := h
  subst e
  exact .tup (SqT.of h) (.cons (.int _) (.cons (.int _) (.cons (.int _) (.cons (.int _) (.cons (.int _) .nil)))))
theorem rpl_ig {K:PySem.W.Frag} {H:Hp}:∀ {vs:List V} {gs:List Ig},All2 (IgAt H) vs gs→RpL K H vs (gs.map igd)
  | _, _, .nil => .nil
  | _, _, .cons h r => .cons (rp_ig h) (rpl_ig r)
theorem eqv_ig {g g':Ig} (h:g.d ≠ g'.d):PyData.eqv (igd g) (igd g') = false:=by
  have e:PyData.eqv (.int g.d) (.int g'.d) = false:=by simp [PyData.eqv,h]
  show (PyData.eqv (.int g.d) (.int g'.d) && _) = false
  rw [e]
  rfl
theorem eqv_ig' (g:Ig):PyData.eqv (igd g) (igd g) = true:=eqv_shaped rfl
def vx (vs : List V) (i : Nat) : V := vs.getD i .non
theorem vx_get {vs:List V} {i:Nat} (h:i < vs.length):vs[i]? = some (vx vs i):=by
  unfold vx
  rw [List.getD_eq_getElem?_getD,List.getElem?_eq_getElem h]
  rfl
theorem vx_map (vs:List V):(List.range vs.length).map (vx vs) = vs:=by
  refine List.ext_getElem? fun i => ?_
  rw [List.getElem?_map]
  by_cases h : i < vs.length
  · rw [List.getElem?_range h, vx_get h]
    rfl
  · rw [List.getElem?_eq_none (by rw [List.length_range]; omega),List.getElem?_eq_none (by omega)]
    rfl
theorem vx_at {H:Hp} {vs:List V} {gs:List Ig} (a:All2 (IgAt H) vs gs) {i:Nat} (h:i < gs.length):IgAt H (vx vs i) (gi gs i):=by
  have hv : i < vs.length := by rw [a.len]; exact h
  obtain ⟨g, hg, r⟩ := a.get (vx_get hv)
  rw [gi_get h] at hg
  rw [Option.some.inj hg]
  exact r
theorem vx_all {H:Hp} {vs:List V} {gs:List Ig} (a:All2 (IgAt H) vs gs):∀ {L:List Nat},(∀ i ∈ L,i < gs.length)→All2 (IgAt H) (L.map (vx vs)) (L.map (gi gs))
  | [], _ => .nil
  | i :: L,h=>.cons (vx_at a (h i List.mem_cons_self)) (vx_all a fun j hj=>h j (List.mem_cons_of_mem _ hj))
theorem a2_vx {vs:List V}:∀ (L:List Nat),All2 (fun v m=>v = vx vs m) (L.map (vx vs)) L
  | [] => .nil
  | _ :: L => .cons rfl (a2_vx L)
theorem all2_vx {vs:List V}:∀ {L:List Nat} {ys:List V},All2 (fun (m:Nat) y=>y = vx vs m) L ys→ys = L.map (vx vs)
  | _, _, .nil => rfl
  | _, _, .cons h t => by rw [h, all2_vx t]; rfl
theorem shuf_step {d:Nat→Int} {L ys R:List Nat} {f i:Nat} (pm:(L ++ ys).Perm R) (inc:L.Pairwise (· < ·)) (pw:ys.Pairwise fun a b=>d a = d b→a < b) (cr:∀ a ∈ ys,∀ b ∈ L,d a = d b→a < b) (hi:i ∈ L) (hf:(L.filter fun m=>decide (d m = d i)).head? = some f) :
    (f ∈ L∧d f = d i)∧(L.erase f ++ (ys ++ [f])).Perm R∧(L.erase f).Pairwise (· < ·)∧(ys ++ [f]).Pairwise (fun a b=>d a = d b→a < b)∧∀ a ∈ ys ++ [f],∀ b ∈ L.erase f,d a = d b→a < b:=by
  have mf := List.mem_of_head? hf
  obtain ⟨fL, df⟩ := List.mem_filter.mp mf
  have df : d f = d i := of_decide_eq_true df
  have least:∀ b ∈ L,d b = d f→b ≠ f→f < b:=fun b hb db ne=>by
    obtain ⟨t,ht⟩:∃ t,L.filter (fun m=>decide (d m = d i)) = f :: t:=by
      cases e : L.filter (fun m => decide (d m = d i)) with
      | nil => rw [e] at hf; cases hf
      | cons x t =>
        rw [e] at hf
        have : x = f := Option.some.inj hf
        exact ⟨t, by rw [this]⟩
    have hb':b ∈ L.filter (fun m=>decide (d m = d i)):=List.mem_filter.mpr ⟨hb,decide_eq_true (db.trans df)⟩
    have inc':(L.filter (fun m=>decide (d m = d i))).Pairwise (· < ·):=List.Pairwise.filter _ inc
    rw [ht] at hb' inc'
    rcases List.mem_cons.mp hb' with z | z
    · exact absurd z ne
    · exact (List.pairwise_cons.mp inc').1 b z
  have nd : L.Nodup := inc.imp fun {a b} h => Nat.ne_of_lt h
  refine ⟨⟨fL,df⟩,?_,inc.sublist List.erase_sublist,List.pairwise_append.mpr ⟨pw,List.pairwise_singleton ..,fun a ha b hb=>?_⟩,fun a ha b hb dab=>?_⟩
  · refine List.Perm.trans ?_ pm
    have h1:(L.erase f ++ (ys ++ [f])).Perm (f :: (L.erase f ++ ys)):=by
      rw [← List.append_assoc]
      exact List.perm_append_singleton ..
    refine h1.trans ?_
    show ((f :: L.erase f) ++ ys).Perm (L ++ ys)
    exact (List.perm_cons_erase fL).symm.append_right ys
  · rw [List.mem_singleton.mp hb]
    exact cr a ha f fL
  · have bL := List.mem_of_mem_erase hb
    rcases List.mem_append.mp ha with h | h
    · exact cr a h b bL dab
    · rw [List.mem_singleton.mp h] at dab ⊢
      refine least b bL dab.symm fun z => ?_
      subst z
      exact nd.not_mem_erase hb
theorem head_idx {P:Nat→Bool}:∀ {L:List Nat} {f:Nat},(L.filter P).head? = some f→∀ q m,q < L.idxOf f→L[q]? = some m→P m = false
  | [], _, h, _, _, _, _ => by cases h
  | x :: L, f, h, q, m, lt, hq => by
    by_cases c : P x = true
    · rw [List.filter_cons_of_pos c] at h
      have : x = f := Option.some.inj h
      subst this
      rw [List.idxOf_cons_self] at lt
      omega
    · rw [List.filter_cons_of_neg c] at h
      cases q with
      | zero =>
        have : x = m := Option.some.inj hq
        subst this
        simpa using c
      | succ q =>
        have ne : x ≠ f := fun z => by
          have := List.mem_of_head? h
          rw [← z] at this
          exact c (List.mem_filter.mp this).2
        refine head_idx h q m ?_ hq
        rw [List.idxOf_cons,cond_eq_if,if_neg (by simpa using ne)] at lt
        omega
def sp_l_shuffled (K:PySem.W.Frag) (ns:List Int):Sp:=fun vs H Q _=>match vs with
  | [.ref a,.ref G]=>∃ (gs:List Ig) (vs:List V),(SqL K H a (ns.map V.int)∧Bits ns∧H G = some (.lst vs)∧All2 (IgAt H) vs gs∧gs.length ≤ 24) ∧
    ∀ D (ys:List Nat) H',Same H H'→H D = none→H' D = some (.lst (ys.map (vx vs)))→ys.Perm (List.range gs.length)→ys.Pairwise (fun i j=>(gi gs i).d = (gi gs j).d→i < j)→Q (.ref D) H'
  | _ => False
theorem sc_l_shuffled:FnScope ["_law_script","_law_games","_law_left","_law_found","_law_cell_here","_law_played","_law_first"] ["_law_script","_law_games"] (defScope s_l_shuffled):=⟨rfl,rfl,rfl,by decide +kernel,rfl,by decide +kernel,by decide +kernel⟩
theorem ok_l_shuffled (d:Dfn K mg "_law_shuffled" s_l_shuffled ["_law_script","_law_games"]) (er:Errs K mg c_Capped c_Early c_NoTable c_Rested c_Rule) (n_len:mg "len" = none) (n_list:mg "list" = none)  (c_l_cell:Cal P w K mg base "_law_cell" ["_law_script","_law_k"] 1 (sp_l_cell K ns)):Cal P w K mg base "_law_shuffled" ["_law_script","_law_games"] 2 (sp_l_shuffled K ns):=by
  refine d.cal (k:=1) sc_l_shuffled (fun vs H Q E h=>?_) (fun f cdv A outer s H vs Q E hr h=>?_)
  · match vs, h with
    | [.ref a, .ref G], _ => rfl
  · match vs, h with
    | [.ref a, .ref G], hq0 =>
      obtain ⟨gs, vs, ⟨hS, hb, hG, al, l24⟩, k⟩ := hq0
      refine ⟨_,(@pss_cons _ _ _ _ _ (@ps_set _ _ (2) _ _ _ _ sc_l_shuffled.nd rfl (by first | exact Or.inl rfl | exact Or.inr rfl) (@pe_callTy _ _ _ _ _ _ _ _ _ c_listN (by rfl) n_list (by decide +kernel) (@pa_cons _ _ _ _ _ (dv 1) pa_nil (by rfl)) (by decide) (by decide) (by rfl) (by rfl)) (by rfl) (by first | exact .inl rfl | exact .inr rfl | assumption)) (@pss_cons _ _ _ _ _ (@ps_set _ _ (3) _ _ _ _ sc_l_shuffled.nd rfl (by first | exact Or.inl rfl | exact Or.inr rfl) (@pe_lst _ _ _ _ pa_nil) (by rfl) (by first | exact .inl rfl | exact .inr rfl | assumption)) (@pss_cons _ _ _ _ _ (@s_while _ _ _ _ _ _ PassesOwn.never (@t_cmp _ _ _ _ _ _ _ _ (@o_neD _ hr.units) (dv 2) (@pe_lst _ _ _ _ pa_nil) (@nomark _ _ (by decide) (by decide))) (@pss_cons _ _ _ _ _ (@ps_set _ _ (4) _ _ _ _ sc_l_shuffled.nd rfl (by first | exact Or.inl rfl | exact Or.inr rfl) (@e_call _ _ _ _ _ _ _ _ _ _ _ c_l_cell hr (by decide) (by rfl) (@pa_cons _ _ _ _ _ (dv 0) (@pa_cons _ _ _ _ _ (@pe_op _ _ _ _ _ _ _ _ o_add pe_int (@pe_op _ _ _ _ _ _ _ _ o_mod (@pe_callB _ _ _ _ _ _ _ _ _ c_len (by rfl) n_len (by decide +kernel) (@pa_cons _ _ _ _ _ (dv 2) pa_nil (by rfl)) (by decide) (by decide) (by rfl) (by rfl)) pe_int)) pa_nil (by rfl)) (by rfl)) (by decide) (by rfl) (by rfl)) (by rfl) (by first | exact .inl rfl | exact .inr rfl | assumption)) (@pss_cons _ _ _ _ _ (@ps_set _ _ (5) _ _ _ _ sc_l_shuffled.nd rfl (by first | exact Or.inl rfl | exact Or.inr rfl) (@pe_ix _ _ _ _ _ _ _ i_lst (dv 2) (@pe_op _ _ _ _ _ _ _ _ o_mod (dv 4) (@pe_callB _ _ _ _ _ _ _ _ _ c_len (by rfl) n_len (by decide +kernel) (@pa_cons _ _ _ _ _ (dv 2) pa_nil (by rfl)) (by decide) (by decide) (by rfl) (by rfl))) (fun _ _=>rfl)) (by rfl) (by first | exact .inl rfl | exact .inr rfl | assumption)) (@pss_cons _ _ _ _ _ (@ps_set _ _ (6) _ _ _ _ sc_l_shuffled.nd rfl (by first | exact Or.inl rfl | exact Or.inr rfl) (@pe_ix _ _ _ _ _ _ _ i_lst (@e_compIN _ _ _ _ _ _ _ _ _ _ _ _ ["_law_one"] ["_law_played"] [5] rfl (@pi_list _ _ _ _ (dv 2)) (fun C s H fp=>(@pg_name _ _ (0) _ (show List.Nodup [("_law_one":Str),("_law_played":Str)] by decide +kernel) rfl (by first | exact Or.inl rfl | exact Or.inr rfl) (by first | exact .inl rfl | exact .inr rfl | assumption))) (fun C s H fp=>(@t_cmp _ _ _ _ _ _ _ _ o_eq (@pe_ix _ _ _ _ _ _ _ i_tup (dv 0) pe_int (fun _ _=>rfl)) (@pe_ix _ _ _ _ _ _ _ i_tup (dv 1) pe_int (fun _ _=>rfl)) (@nomark _ _ (by decide) (by decide)))) (fun C s H fp=>(dv 0)) rfl rfl (by decide +kernel) (by decide +kernel) (by rfl) ⟨rfl,True.intro⟩ ⟨⟨rfl,rfl,rfl,rfl⟩,True.intro⟩ (by intro _; rfl)) pe_int (fun _ _=>rfl)) (by rfl) (by first | exact .inl rfl | exact .inr rfl | assumption)) (@pss_cons _ _ _ _ _ (@ps_expr _ _ _ _ (@pe_bm _ _ _ _ _ _ _ _ _ _ _ _ PySem.F.plainAttrs_list PySem.F.slot_list_remove PySem.F.type_list_remove (@mt_removeT _ hr.units) (dv 2) (@pa_cons _ _ _ _ _ (dv 6) pa_nil (by rfl)) (by rfl) (by rfl) (by rfl) (by rfl) (by rfl)) (by rfl)) (@pss_one _ _ _ (@ps_expr _ _ _ _ (@pe_bm _ _ _ _ _ _ _ _ _ _ _ _ PySem.F.plainAttrs_list PySem.F.slot_list_append PySem.F.type_list_append mt_append (dv 3) (@pa_cons _ _ _ _ _ (dv 6) pa_nil (by rfl)) (by rfl) (by rfl) (by rfl) (by rfl) (by rfl)) (by rfl)))))))) (@pss_one _ _ _ (@ps_ret _ _ _ _ (dv 3)))))),?_⟩
      have lv := al.len
      refine ⟨vs, .inl (SqL.of hG), fun D hD => ?_⟩
      have s1 : Same H (upd H D (.lst vs)) := same_upd hD
      have e1:upd H D (.lst vs) D = some (.lst vs):=upd_same
      generalize upd H D (.lst vs) = H1 at s1 e1
      refine ⟨by decide, fun F hF => ?_⟩
      have nF : H F = none := none_back s1 hF
      have nDF:D ≠ F:=fun z=>by rw [z,hF] at e1; cases e1
      have s2 : Same H1 (upd H1 F (.lst [])) := same_upd hF
      have e2:upd H1 F (.lst []) F = some (.lst []):=upd_same
      generalize upd H1 F (.lst []) = H2 at s2 e2
      refine ⟨fun m σ H'=>∃ (L ys:List Nat) (o4 o5 o6:Option V),σ = [some (.ref a),some (.ref G),some (.ref D),some (.ref F),o4,o5,o6]∧Same H H'∧H' D = some (.lst (L.map (vx vs)))∧H' F = some (.lst (ys.map (vx vs)))∧L.length = m∧(L ++ ys).Perm (List.range gs.length)∧L.Pairwise (· < ·)∧ys.Pairwise (fun i j=>(gi gs i).d = (gi gs j).d→i < j)∧∀ a ∈ ys,∀ b ∈ L,(gi gs a).d = (gi gs b).d→a < b,⟨_,List.range vs.length,[],none,none,none,rfl,s1.trans s2,by rw [vx_map]; exact s2 _ _ e1,e2,rfl,by rw [List.append_nil,lv],List.pairwise_lt_range,.nil,fun a h=>by (cases h)⟩,?_⟩
      rintro m σ H3 ⟨L,ys,o4,o5,o6,rfl,s3,eL,eF,lm,pm,inc,pw,cr⟩
      refine ⟨by decide, fun Z hZ => ?_⟩
      have s4 : Same H3 (upd H3 Z (.lst [])) := same_upd hZ
      have e4:upd H3 Z (.lst []) Z = some (.lst []):=upd_same
      generalize upd H3 Z (.lst []) = H4 at s4 e4
      have eL4 := s4 _ _ eL
      have eF4 := s4 _ _ eF
      have s04 := s3.trans s4
      have inR:∀ i ∈ L,i < gs.length:=fun i hi=>List.mem_range.mp (pm.mem_iff.mp (List.mem_append_left _ hi))
      have al4:All2 (IgAt H4) vs gs:=al.imp fun v g r=>ig_up v g _ _ (kt_of s04) r
      refine ⟨_,_,.lst (SqL.of eL4) (rpl_ig (vx_all al4 inR)),.lst (SqL.of e4) .nil,sh_ig _,rfl,⟨fun h=>?thn,fun h=>?els⟩⟩
      case els =>
        have z : L = [] := by
          cases L with
          | nil => rfl
          | cons x L=>exact nb (show (!PyData.eqv (.list (((x :: L).map (gi gs)).map igd)) (.list [])) = false from h)
        subst z
        exact k F ys H4 s04 nF eF4 pm pw
      have ne : L ≠ [] := fun z => by
        subst z
        exact nb (show (!PyData.eqv (.list (([].map (gi gs)).map igd)) (.list [])) = true from h)
      have L0 : 0 < L.length := List.length_pos_iff.mpr ne
      have pl := pm.length_eq
      rw [List.length_append, List.length_range] at pl
      have lL:(L.map (vx vs)).length = L.length:=List.length_map _
      have y0:=Int.emod_nonneg (L.length:Int) (show (11:Int) ≠ 0 by decide)
      have y1:=Int.emod_lt_of_pos (L.length:Int) (show (0:Int) < 11 by decide)
      refine ⟨_,.inl (SqL.of eL4),(by show (0:Int) < 11; decide),s04.seq hS,⟨by rw [lL]; omega,by rw [lL]; omega,hb⟩,fun c _=>?_⟩
      have u0:=Int.emod_nonneg c (show (L.length:Int) ≠ 0 by omega)
      have u1:=Int.emod_lt_of_pos c (show 0 < (L.length:Int) by omega)
      obtain ⟨u,hu⟩:∃ u:Nat,c % (L.length:Int) = u:=⟨_,(Int.toNat_of_nonneg u0).symm⟩
      have ul : u < L.length := by omega
      have iL : L[u] ∈ L := List.getElem_mem ul
      obtain ⟨p, ep, hp⟩ := vx_at al4 (inR _ iL)
      refine ⟨_,.inl (SqL.of eL4),by rw [lL]; show 0 < (L.length:Int); omega,_,.ref p,SqL.of eL4,(by rw [lL]; show atI _ (c % (L.length:Int)) = _; rw [hu]; exact atI_nat (by rw [List.getElem?_map,List.getElem?_eq_getElem ul,← ep]; rfl)),?_⟩
      refine ⟨D,rfl,⟨_,SqL.of eL4⟩,comp_absI (fun _ v (m:Nat)=>v = vx vs m) (fun _ _ _ _ _ h=>h) (fun _ (m:Nat) y=>y = vx vs m) (fun _ _ _ _ _ h=>h) (fun m=>decide ((gi gs m).d = (gi gs L[u]).d)) (by rw [lL]; omega) (SqL.of eL4) (a2_vx L) ?_ ?_⟩
      · intro v m H5 hv hm s5 P P' hP hP'
        obtain ⟨p5,ep5,hp5⟩:=vx_at (al4.imp fun v g r=>ig_up v g _ _ (kt_of s5) r) (inR m hm)
        rw [ep5] at hv
        subst hv
        refine ⟨rfl,_,hp5,_,s5 _ _ hp,⟨fun h=>?_,fun h=>?_⟩⟩
        · exact hP (by simpa using h) _ _ (Same.refl _) ep5.symm
        · exact hP' (by simpa using h) _ (Same.refl _)
      intro D5 H5 zs s5 _ e5 a5
      have ez := all2_vx a5
      subst ez
      have mi:L[u] ∈ L.filter fun m=>decide ((gi gs m).d = (gi gs L[u]).d):=List.mem_filter.mpr ⟨iL,decide_eq_true rfl⟩
      obtain ⟨f,hf⟩:∃ f,(L.filter fun m=>decide ((gi gs m).d = (gi gs L[u]).d)).head? = some f:=by
        cases e:L.filter (fun m=>decide ((gi gs m).d = (gi gs L[u]).d)) with
        | nil => rw [e] at mi; cases mi
        | cons x t => exact ⟨x, rfl⟩
      obtain ⟨⟨fL,df⟩,pm',inc',pw',cr'⟩:=shuf_step (d:=fun i=>(gi gs i).d) pm inc pw cr iL hf
      have eL5 := s5 _ _ eL4
      have al5:All2 (IgAt H5) vs gs:=al4.imp fun v g r=>ig_up v g _ _ (kt_of s5) r
      have fl := List.idxOf_lt_length_of_mem fL
      refine ⟨_,vx vs f,SqL.of e5,atI_nat (j:=0) (by rw [List.getElem?_map,← List.head?_eq_getElem?,hf]; rfl),.inl ⟨rfl,_,SqL.of eL5⟩,D,_,(L.map (gi gs)).map igd,vx vs f,igd (gi gs f),L.idxOf f,rfl,rfl,eL5,.lst (SqL.of eL5) (rpl_ig (vx_all al5 inR)),rp_ig (vx_at al5 (inR f fL)),cl_ig _,rfl,(by show 1 ≤ 8; decide),⟨igd (gi gs f),?_,eqv_ig' _⟩,?_,?_⟩
      · rw [List.getElem?_map,List.getElem?_map,List.getElem?_eq_getElem fl,List.getElem_idxOf]
        rfl
      · intro q d' lt hd
        rw [List.getElem?_map, List.getElem?_map] at hd
        obtain ⟨g',hg',rfl⟩:=Option.map_eq_some_iff.mp hd
        obtain ⟨m',hm',rfl⟩:=Option.map_eq_some_iff.mp hg'
        refine eqv_ig fun z => ?_
        have := head_idx hf q m' lt hm'
        exact of_decide_eq_false this (z.trans df)
      have er':(L.map (vx vs)).eraseIdx (L.idxOf f) = (L.erase f).map (vx vs):=by
        rw [er_map, List.erase_eq_eraseIdx_of_idxOf rfl]
      rw [er']
      have eF5 := s5 _ _ eF4
      have eF6:upd H5 D (.lst ((L.erase f).map (vx vs))) F = some (.lst (ys.map (vx vs))):=by
        rw [upd_ne (Ne.symm nDF)]
        exact eF5
      refine ⟨.inl ⟨rfl,_,SqL.of eF6⟩,F,_,_,rfl,rfl,eF6,Nat.lt_of_le_of_lt (show (ys.map (vx vs)).length ≤ 100 by rw [List.length_map]; omega) (by decide),?_⟩
      refine ⟨L.length - 1,by omega,L.erase f,ys ++ [f],_,_,_,rfl,same_app' (same_app' (s04.trans s5) hD) nF,?_,?_,?_,pm',inc',pw',cr'⟩
      · rw [upd_ne nDF, upd_same]
      · rw [upd_same, List.map_append]
        rfl
      · rw [List.length_erase_of_mem fL]
theorem all2_flip {α β:Type} {R:α→β→Prop}:∀ {l:List α} {m:List β},All2 (fun a b=>R b a) m l→All2 R l m
  | _, _, .nil => .nil
  | _, _, .cons h t => .cons h (all2_flip t)
theorem all2_maps {α β γ:Type} {f:β→γ} {R:α→γ→Prop}:∀ {l:List α} {m:List β},All2 (fun b a=>R a (f b)) m l→All2 R l (m.map f)
  | _, _, .nil => .nil
  | _, _, .cons h t => .cons h (all2_maps t)
def MkAt (H:Hp) (M:Addr) (n:Nat) (S:Nat→Bool):Prop:=∃ kvs,H M = some (.dK kvs)∧kvs.length ≤ n∧∀ k:Nat,(valV kvs (Sum.inl (k:Int))).isSome = S k
theorem MkAt.two {H:Hp} {M:Addr} {n:Nat} {S:Nat→Bool} {g:Ig} (h:MkAt H M n S) (l:n ≤ 900):∃ H1 H2,DPut H M (.int (g.i:Int)) (.bl true) H1∧DPut H1 M (.int (g.j:Int)) (.bl true) H2∧Sx M H H1∧Sx M H1 H2∧(∃ kvs,H1 M = some (.dK kvs))∧MkAt H2 M (n + 2) (mkA S g):=by
  obtain ⟨kvs, e, lk, a⟩ := h
  have l1:=length_putK kvs (Sum.inl (g.i:Int)) (.bl true)
  have l2:=length_putK (putK kvs (Sum.inl (g.i:Int)) (.bl true)) (Sum.inl (g.j:Int)) (.bl true)
  have e1:upd H M (.dK (putK kvs (Sum.inl (g.i:Int)) (.bl true))) M = some (.dK (putK kvs (Sum.inl (g.i:Int)) (.bl true))):=upd_same
  refine ⟨_,_,DPut.k (k:=Sum.inl (g.i:Int)) e (Nat.lt_of_le_of_lt (show _ ≤ 1000 by omega) (by decide)),DPut.k (k:=Sum.inl (g.j:Int)) e1 (Nat.lt_of_le_of_lt (show _ ≤ 1000 by omega) (by decide)),Sx.upd,Sx.upd,⟨_,e1⟩,_,upd_same,by omega,fun k=>?_⟩
  rw [valV_put, valV_put]
  unfold mkA
  by_cases c : k = g.j
  · rw [if_pos (by rw [c]),decide_eq_true (.inr c.symm),Bool.or_true]
    rfl
  · have c':¬ (Sum.inl (k:Int):Key) = Sum.inl (g.j:Int):=fun z=>c (by have:=Sum.inl.inj z; omega)
    rw [if_neg c']
    by_cases d : k = g.i
    · rw [if_pos (by rw [d]),decide_eq_true (.inl d.symm),Bool.or_true]
      rfl
    · have d':¬ (Sum.inl (k:Int):Key) = Sum.inl (g.i:Int):=fun z=>d (by have:=Sum.inl.inj z; omega)
      rw [if_neg d',a k,decide_eq_false (fun z=>z.elim (fun z=>d z.symm) fun z=>c z.symm),Bool.or_false]
theorem MkAt.get {H:Hp} {M:Addr} {n:Nat} {S:Nat→Bool} (h:MkAt H M n S) (k:Nat):∃ o,DGet H M (.int (k:Int)) o∧o.isSome = S k:=by
  obtain ⟨kvs, e, _, a⟩ := h
  exact ⟨_,.inl ⟨kvs,Sum.inl (k:Int),.inl e,rfl,rfl⟩,a k⟩
theorem MkAt.more {H:Hp} {M:Addr} {n m:Nat} {S:Nat→Bool} (h:MkAt H M n S) (l:n ≤ m):MkAt H M m S:=by
  obtain ⟨kvs, e, lk, a⟩ := h
  exact ⟨kvs, e, Nat.le_trans lk l, a⟩
theorem MkAt.up {H H':Hp} {M:Addr} {n:Nat} {S:Nat→Bool} (s:∀ o,H M = some o→H' M = some o) (h:MkAt H M n S):MkAt H' M n S:=by
  obtain ⟨kvs, e, lk, a⟩ := h
  exact ⟨kvs, s _ e, lk, a⟩
theorem MkAt.dk {H:Hp} {M:Addr} {n:Nat} {S:Nat→Bool} (h:MkAt H M n S):∃ kvs,H M = some (.dK kvs):=by
  obtain ⟨kvs, e, _⟩ := h
  exact ⟨kvs, e⟩
theorem ahead_plays:∀ {A:List Ig} {S:Nat→Bool} {k:Nat},(S k = true ∨ plays A k = true)→A.foldl mkA S k = true
  | [], _, _, h => h.elim (fun h => h) fun h => by cases h
  | g :: A, S, k, h => by
    refine ahead_plays (A := A) ?_
    unfold mkA
    rcases h with h | h
    · exact .inl (by rw [h]; rfl)
    · obtain ⟨x, hx, c⟩ := plays_iff.mp h
      rcases List.mem_cons.mp hx with e | hx
      · subst e
        exact .inl (by rw [decide_eq_true c, Bool.or_true])
      · exact .inr (plays_iff.mpr ⟨x, hx, c⟩)
theorem ix_name {nm:List Str} (nd:nm.Nodup) {k:Nat} (hk:k < nm.length):(nm.map V.str)[k]? = some (.str (nx nm k))∧eqV (.str (nx nm k)) (.str (nx nm k)) = true∧∀ m z,m < k→(nm.map V.str)[m]? = some z→eqV z (.str (nx nm k)) = false:=by
  refine ⟨by rw [List.getElem?_map,nx_get hk]; rfl,beq_self_eq_true (nx nm k),fun m z lt hz=>?_⟩
  have hm : m < nm.length := by omega
  rw [List.getElem?_map, nx_get hm] at hz
  have hz : V.str (nx nm m) = z := Option.some.inj hz
  subst hz
  show (nx nm m == nx nm k) = false
  rw [beq_eq_false_iff_ne]
  intro e
  have := nx_inj nd hm hk e
  omega
theorem nq_pairs {H:Hp} {f:Str→Q2}:∀ {l:List Str} {vs:List V},All2 (NqAt H) vs (l.map fun x=>(x,f x))→∃ kvs:List (Key × V),Paired (fun v (kv:Key × V)=>∃ p,v = V.ref p∧H p = some (.tup [kV kv.1,kv.2])) vs kvs∧kvs.map (·.1) = l.map Sum.inr∧(l.Nodup→∀ x ∈ l,∃ p,valV kvs (Sum.inr x) = some (.ref p)∧H p = some (.tup [.int (f x).1,.int (f x).2]))
  | [],_,.nil=>⟨[],.nil,rfl,fun _ x h=>by (cases h)⟩
  | y :: l, _, .cons ⟨t, p, e, h0, h1⟩ r => by
    obtain ⟨kvs, k1, k2, k3⟩ := nq_pairs (l := l) r
    refine ⟨(Sum.inr y,.ref p) :: kvs,.cons ⟨t,e,h0⟩ k1,by rw [List.map_cons,k2]; rfl,fun nd x hx=>?_⟩
    obtain ⟨n1, n2⟩ := List.nodup_cons.mp nd
    rcases List.mem_cons.mp hx with rfl | hx
    · exact ⟨p, valV_pos rfl, h1⟩
    · obtain ⟨q, q1, q2⟩ := k3 n2 x hx
      refine ⟨q, ?_, q2⟩
      rw [valV_neg]
      · exact q1
      · intro z
        exact n1 (Sum.inr.inj z ▸ hx)
theorem smt_lst {T:Addr} {H H':Hp} {pos:Pos} {q:Str} (sm:SmT T H H') (tk:TabOk H T pos q):(∀ b xs,H b = some (.lst xs)→H' b = some (.lst xs))∧Kt H H':=by
  obtain ⟨ps, tt, _⟩ := tk
  exact ⟨fun b xs e=>sm b _ (fun z=>by rw [z,tt] at e; cases e) e,fun b xs e=>sm b _ (fun z=>by rw [z,tt] at e; cases e) e⟩
theorem smt_off {T:Addr} {H H':Hp} (sm:SmT T H H'):Same (off T H) (off T H'):=off_off (off_smt off_same sm)
theorem flat_strs':∀ (l:List Str),(l.map V.str).all flatV = true
  | [] => rfl
  | _ :: l => by
    rw [List.map_cons, List.all_cons, flat_strs' l]
    rfl
def sp_l_parted (K:PySem.W.Frag) (ns:List Int):Sp:=fun vs H Q _=>match vs with
  | [.ref r,.ref G,.ref NL,.int D]=>∃ (so st fi one two:Int) (rows:List Rw) (gs:List Ig) (vs:List V) (nm:List Str),(RlAt K (off (T12 K) H) r so st fi one two rows∧Tb rows∧Nb st one two∧Bd 40 fi∧(H G = some (.lst vs)∧All2 (IgAt H) vs gs∧gs.length ≤ 24∧GiOk nm.length gs∧∀ g ∈ gs,0 ≤ g.h∧g.h ≤ 2)∧(H NL = some (.lst (nm.map V.str))∧nm.length ≤ 8∧nm.Nodup)∧TabOk H (T12 K) lp12 q12) ∧
    ∀ H',TabOk H' (T12 K) lp12 q12→SmT (T12 K) H H'→Q (.bl true) H'
  | _ => False
theorem sc_l_parted:FnScope ["_law_rule_here","_law_games","_law_names_here","_law_day","_law_behind","_law_ahead","_law_marked","_law_played","_law_step","_law_apart","_law_whole","_law_alone","_law_name"] ["_law_rule_here","_law_games","_law_names_here","_law_day"] (defScope s_l_parted):=⟨rfl,rfl,rfl,by decide +kernel,rfl,by decide +kernel,by decide +kernel⟩
theorem ok_l_parted (d:Dfn K mg "_law_parted" s_l_parted ["_law_rule_here","_law_games","_law_names_here","_law_day"]) (er:Errs K mg c_Capped c_Early c_NoTable c_Rested c_Rule) (n_dict:mg "dict" = none)  (c_running:Cal P w K mg base "running" ["rule","games"] 10 (sp_running K ns)) (c_l_named:Cal P w K mg base "_law_named" ["_law_played","_law_names_here"] 1 (sp_l_named K ns)):Cal P w K mg base "_law_parted" ["_law_rule_here","_law_games","_law_names_here","_law_day"] 11 (sp_l_parted K ns):=by
  refine d.cal (k:=10) sc_l_parted (fun vs H Q E h=>?_) (fun f cdv A outer s H vs Q E hr h=>?_)
  · match vs, h with
    | [.ref r, .ref G, .ref NL, .int D], _ => rfl
  · match vs, h with
    | [.ref r, .ref G, .ref NL, .int D], hq0 =>
      obtain ⟨so,st,fi,one,two,rows,gs,vs,nm,⟨hR,tb,b,bf,⟨hG,al,l24,ok,h02⟩,⟨hN,n8,nd⟩,tk⟩,k⟩:=hq0
      refine ⟨_,(@pss_cons _ _ _ _ _ (@ps_compIN _ _ _ _ _ _ _ _ _ (4) _ _ _ _ _ _ ["_law_played"] ["_law_day"] [3] rfl (@pi_list _ _ _ _ (dv 1)) (fun C s H fp=>(@pg_name _ _ (0) _ (show List.Nodup [("_law_played":Str),("_law_day":Str)] by decide +kernel) rfl (by first | exact Or.inl rfl | exact Or.inr rfl) (by first | exact .inl rfl | exact .inr rfl | assumption))) (fun C s H fp=>(@t_cmp _ _ _ _ _ _ _ _ o_ge (@pe_ix _ _ _ _ _ _ _ i_tup (dv 0) pe_int (fun _ _=>rfl)) (dv 1) (@nomark _ _ (by decide) (by decide)))) (fun C s H fp=>(dv 0)) rfl rfl (by decide +kernel) (by decide +kernel) (by rfl) ⟨rfl,True.intro⟩ ⟨⟨rfl,rfl,rfl,rfl⟩,True.intro⟩ sc_l_parted.nd rfl rfl (by intro _; rfl) (by rfl)) (@pss_cons _ _ _ _ _ (@ps_compIN _ _ _ _ _ _ _ _ _ (5) _ _ _ _ _ _ ["_law_played"] ["_law_day"] [3] rfl (@pi_list _ _ _ _ (dv 1)) (fun C s H fp=>(@pg_name _ _ (0) _ (show List.Nodup [("_law_played":Str),("_law_day":Str)] by decide +kernel) rfl (by first | exact Or.inl rfl | exact Or.inr rfl) (by first | exact .inl rfl | exact .inr rfl | assumption))) (fun C s H fp=>(@t_cmp _ _ _ _ _ _ _ _ o_lt (@pe_ix _ _ _ _ _ _ _ i_tup (dv 0) pe_int (fun _ _=>rfl)) (dv 1) (@nomark _ _ (by decide) (by decide)))) (fun C s H fp=>(dv 0)) rfl rfl (by decide +kernel) (by decide +kernel) (by rfl) ⟨rfl,True.intro⟩ ⟨⟨rfl,rfl,rfl,rfl⟩,True.intro⟩ sc_l_parted.nd rfl rfl (by intro _; rfl) (by rfl)) (@pss_cons _ _ _ _ _ (@ps_set _ _ (6) _ _ _ _ sc_l_parted.nd rfl (by first | exact Or.inl rfl | exact Or.inr rfl) pe_dnewK (by rfl) (by first | exact .inl rfl | exact .inr rfl | assumption)) (@pss_cons _ _ _ _ _ (@ps_for _ _ _ _ _ _ _ _ PassesOwn.never rfl (@pi_list _ _ _ _ (dv 5)) (@pg_name _ _ (7) _ sc_l_parted.nd rfl (by first | exact Or.inl rfl | exact Or.inr rfl) (by first | exact .inl rfl | exact .inr rfl | assumption)) (@pss_cons _ _ _ _ _ (@ps_dput _ _ _ _ _ _ _ _ _ (@u1 _ _ hr.units) (dv 6) (@pe_ix _ _ _ _ _ _ _ i_tup (dv 7) pe_int (fun _ _=>rfl)) pe_bl rfl) (@pss_one _ _ _ (@ps_dput _ _ _ _ _ _ _ _ _ (@u1 _ _ hr.units) (dv 6) (@pe_ix _ _ _ _ _ _ _ i_tup (dv 7) pe_int (fun _ _=>rfl)) pe_bl rfl))) (by intro _; rfl)) (@pss_cons _ _ _ _ _ (@ps_for _ _ _ _ _ _ _ _ PassesOwn.never rfl (@pi_list _ _ _ _ (dv 2)) (@pg_name _ _ (8) _ sc_l_parted.nd rfl (by first | exact Or.inl rfl | exact Or.inr rfl) (by first | exact .inl rfl | exact .inr rfl | assumption)) (@pss_one _ _ _ (@ps_for _ _ _ _ _ _ _ _ PassesOwn.never rfl (@pi_list _ _ _ _ (dv 4)) (@pg_name _ _ (7) _ sc_l_parted.nd rfl (by first | exact Or.inl rfl | exact Or.inr rfl) (by first | exact .inl rfl | exact .inr rfl | assumption)) (@pss_one _ _ _ (@s_if _ _ _ _ _ _ _ _ (@L2.PW.pt _ _ _ (@w_or _ _ _ _ _ _ _ (@t_dinK _ _ _ _ _ _ (@u1 _ _ hr.units) (@pe_ix _ _ _ _ _ _ _ i_tup (dv 7) pe_int (fun _ _=>rfl)) (dv 6) (by with_unfolding_all rfl)) (@pw_or1 _ _ _ _ (@t_dinK _ _ _ _ _ _ (@u1 _ _ hr.units) (@pe_ix _ _ _ _ _ _ _ i_tup (dv 7) pe_int (fun _ _=>rfl)) (dv 6) (by with_unfolding_all rfl))))) (@pss_cons _ _ _ _ _ (@ps_dput _ _ _ _ _ _ _ _ _ (@u1 _ _ hr.units) (dv 6) (@pe_ix _ _ _ _ _ _ _ i_tup (dv 7) pe_int (fun _ _=>rfl)) pe_bl rfl) (@pss_one _ _ _ (@ps_dput _ _ _ _ _ _ _ _ _ (@u1 _ _ hr.units) (dv 6) (@pe_ix _ _ _ _ _ _ _ i_tup (dv 7) pe_int (fun _ _=>rfl)) pe_bl rfl))) pss_nil)) (by intro _; rfl))) (by intro _; rfl)) (@pss_cons _ _ _ _ _ (@ps_compN _ _ _ _ _ _ _ _ (9) _ _ _ _ _ ["_law_played"] ["_law_names_here"] [2] rfl (@pi_list _ _ _ _ (dv 4)) (fun C s H fp=>(@pg_name _ _ (0) _ (show List.Nodup [("_law_played":Str),("_law_names_here":Str)] by decide +kernel) rfl (by first | exact Or.inl rfl | exact Or.inr rfl) (by first | exact .inl rfl | exact .inr rfl | assumption))) (fun C s H fp=>(@e_call _ _ _ _ _ _ _ _ _ _ _ c_l_named hr (by decide) (by rfl) (@pa_cons _ _ _ _ _ (dv 0) (@pa_cons _ _ _ _ _ (dv 1) pa_nil (by rfl)) (by rfl)) (by decide) (by rfl) (by rfl))) rfl rfl (by decide +kernel) (by decide +kernel) (by rfl) ⟨rfl,True.intro⟩ ⟨⟨rfl,rfl,rfl,rfl⟩,True.intro⟩ sc_l_parted.nd rfl rfl (by intro _; rfl) (by rfl)) (@pss_cons _ _ _ _ _ (@ps_set _ _ (10) _ _ _ _ sc_l_parted.nd rfl (by first | exact Or.inl rfl | exact Or.inr rfl) (@pe_callTy _ _ _ _ _ _ _ _ _ (@c_dictL _ rfl) (by rfl) n_dict (by decide +kernel) (@pa_cons _ _ _ _ _ (@e_call _ _ _ _ _ _ _ _ _ _ _ c_running hr (by decide) (by rfl) (@pa_cons _ _ _ _ _ (dv 0) (@pa_cons _ _ _ _ _ (@e_compN _ _ _ _ _ _ _ _ _ _ ["_law_played"] ["_law_names_here"] [2] rfl (@pi_list _ _ _ _ (dv 1)) (fun C s H fp=>(@pg_name _ _ (0) _ (show List.Nodup [("_law_played":Str),("_law_names_here":Str)] by decide +kernel) rfl (by first | exact Or.inl rfl | exact Or.inr rfl) (by first | exact .inl rfl | exact .inr rfl | assumption))) (fun C s H fp=>(@e_call _ _ _ _ _ _ _ _ _ _ _ c_l_named hr (by decide) (by rfl) (@pa_cons _ _ _ _ _ (dv 0) (@pa_cons _ _ _ _ _ (dv 1) pa_nil (by rfl)) (by rfl)) (by decide) (by rfl) (by rfl))) rfl rfl (by decide +kernel) (by decide +kernel) (by rfl) ⟨rfl,True.intro⟩ ⟨⟨rfl,rfl,rfl,rfl⟩,True.intro⟩ (by intro _; rfl)) pa_nil (by rfl)) (by rfl)) (by decide) (by rfl) (by rfl)) pa_nil (by rfl)) (by decide) (by decide) (by rfl) (by rfl)) (by rfl) (by first | exact .inl rfl | exact .inr rfl | assumption)) (@pss_cons _ _ _ _ _ (@ps_set _ _ (11) _ _ _ _ sc_l_parted.nd rfl (by first | exact Or.inl rfl | exact Or.inr rfl) (@pe_callTy _ _ _ _ _ _ _ _ _ (@c_dictL _ rfl) (by rfl) n_dict (by decide +kernel) (@pa_cons _ _ _ _ _ (@e_call _ _ _ _ _ _ _ _ _ _ _ c_running hr (by decide) (by rfl) (@pa_cons _ _ _ _ _ (dv 0) (@pa_cons _ _ _ _ _ (dv 9) pa_nil (by rfl)) (by rfl)) (by decide) (by rfl) (by rfl)) pa_nil (by rfl)) (by decide) (by decide) (by rfl) (by rfl)) (by rfl) (by first | exact .inl rfl | exact .inr rfl | assumption)) (@pss_cons _ _ _ _ _ (@ps_for _ _ _ _ _ _ _ _ PassesOwn.never rfl (@pi_keys _ _ _ _ (dv 11)) (@pg_name _ _ (12) _ sc_l_parted.nd rfl (by first | exact Or.inl rfl | exact Or.inr rfl) (by first | exact .inl rfl | exact .inr rfl | assumption)) (@pss_one _ _ _ (@s_if _ _ _ _ _ _ _ _ (@L2.PW.pt _ _ _ (@w_and _ _ _ _ _ _ _ (@t_dninK _ _ _ _ _ _ (@u1 _ _ hr.units) (@pe_bm _ _ _ _ _ _ _ _ _ _ _ _ PySem.F.plainAttrs_list PySem.F.slot_list_index PySem.F.type_list_index m_lidx (dv 2) (@pa_cons _ _ _ _ _ (dv 12) pa_nil (by rfl)) (by rfl) (by rfl) (by rfl) (by rfl) (by rfl)) (dv 6) (by with_unfolding_all rfl)) (@pw_and1 _ _ _ _ (@t_cmp _ _ _ _ _ _ _ _ (@o_neD _ hr.units) (@pe_dget _ _ _ _ _ _ (@u1 _ _ hr.units) (dv 10) (dv 12) (fun _ _=>rfl)) (@pe_dget _ _ _ _ _ _ (@u1 _ _ hr.units) (dv 11) (dv 12) (fun _ _=>rfl)) (@nomark _ _ (by decide) (by decide)))))) (@pss_one _ _ _ (@ps_ret _ _ _ _ pe_bl)) pss_nil)) (by intro _; rfl)) (@pss_one _ _ _ (@ps_ret _ _ _ _ pe_bl))))))))))),?_⟩
      have lv := al.len
      refine ⟨G,rfl,⟨_,SqL.of hG⟩,comp_absI IgAt ig_up (fun H g y=>IgAt H y g) (fun g y H H' kt h=>ig_up y g H H' kt h) (fun g=>decide (D ≤ g.d)) (by omega) (SqL.of hG) al ?_ ?_⟩
      · intro v g H2 hM hg s2 P P' hP hP'
        obtain ⟨p, rfl, hp⟩ := hM
        exact ⟨rfl,_,hp,⟨fun h=>hP h _ _ (Same.refl _) ⟨p,rfl,hp⟩,fun h=>hP' h _ (Same.refl _)⟩⟩
      intro B H1 bs s1 _ e1 a1
      refine ⟨G,rfl,⟨_,SqL.of (s1 _ _ hG)⟩,comp_absI IgAt ig_up (fun H g y=>IgAt H y g) (fun g y H H' kt h=>ig_up y g H H' kt h) (fun g=>decide (g.d < D)) (by omega) (SqL.of (s1 _ _ hG)) (al.imp fun v g r=>ig_up v g _ _ (kt_of s1) r) ?_ ?_⟩
      · intro v g H2 hM hg s2 P P' hP hP'
        obtain ⟨p, rfl, hp⟩ := hM
        exact ⟨rfl,_,hp,⟨fun h=>hP h _ _ (Same.refl _) ⟨p,rfl,hp⟩,fun h=>hP' h _ (Same.refl _)⟩⟩
      intro A H2 as s2 _ e2 a2
      have aB1:All2 (IgAt H2) bs (gs.filter fun g=>decide (D ≤ g.d)):=all2_flip (a1.imp fun g v h=>ig_up v g _ _ (kt_of s2) h)
      have aA1:All2 (IgAt H2) as (gs.filter fun g=>decide (g.d < D)):=all2_flip a2
      have eB2 := s2 _ _ e1
      have s02 := s1.trans s2
      clear a1 a2 e1 s1 s2
      obtain ⟨BH,hBH⟩:∃ BH,BH = gs.filter fun g=>decide (D ≤ g.d):=⟨_,rfl⟩
      obtain ⟨AH,hAH⟩:∃ AH,AH = gs.filter fun g=>decide (g.d < D):=⟨_,rfl⟩
      rw [← hBH] at aB1
      rw [← hAH] at aA1
      have lB:BH.length ≤ 24:=by rw [hBH]; exact Nat.le_trans (List.length_filter_le ..) l24
      have lA:AH.length ≤ 24:=by rw [hAH]; exact Nat.le_trans (List.length_filter_le ..) l24
      have lbs := aB1.len
      have las := aA1.len
      refine fun M hM => ?_
      have s3 : Same H2 (upd H2 M (.dK [])) := same_upd hM
      have e3:upd H2 M (.dK []) M = some (.dK []):=upd_same
      generalize upd H2 M (.dK []) = H3 at s3 e3
      have keep:∀ {H':Hp},Same H2 H'→MkAt H' M 0 (fun _=>false)→True:=fun _ _=>trivial
      clear keep
      refine ⟨A,rfl,⟨_,SqL.of (s3 _ _ e2)⟩,for_list (K:=K) (a:=A) (xs:=as) (fun i σ H'=>∃ o7:Option V,σ = [some (.ref r),some (.ref G),some (.ref NL),some (.int D),some (.ref B),some (.ref A),some (.ref M),o7,none,none,none,none,none]∧Same H2 H'∧MkAt H' M (2 * i) ((AH.take i).foldl mkA fun _=>false)) ⟨none,rfl,s3,[],e3,Nat.zero_le _,fun _=>rfl⟩ (fun i σ H' _ ⟨_,_,s,_⟩=>SqL.of (s _ _ e2)) ?_ ?_⟩
      · rintro i v σ H4 hv ⟨o7, rfl, s4, m4⟩
        obtain ⟨g, hg, p, rfl, hp⟩ := aA1.get hv
        have il := (List.getElem?_eq_some_iff.mp hv).1
        obtain ⟨H5,H6,d5,d6,x5,x6,⟨kv5,e5⟩,m6⟩:=m4.two (g:=g) (by omega)
        obtain ⟨kv4, e4⟩ := m4.dk
        have hp4 := s4 _ _ hp
        have hp5 := x5.kt' e4 _ _ hp4
        refine ⟨_,hp4,M,_,rfl,d5,_,hp5,M,_,rfl,d6,_,rfl,fun b o e=>x6 b o (fun z=>by rw [z,hM] at e; cases e) (x5 b o (fun z=>by rw [z,hM] at e; cases e) (s4 b o e)),?_⟩
        rw [List.take_add_one, hg]
        show MkAt H6 M (2 * i + 2) ((AH.take i ++ [g]).foldl mkA _)
        rw [List.foldl_append]
        exact m6
      rintro σ H4 ⟨o7, rfl, s4, m4⟩
      rw [las, List.take_length] at m4
      obtain ⟨S0,hS0⟩:∃ S0,S0 = AH.foldl mkA fun _=>false:=⟨_,rfl⟩
      rw [← hS0] at m4
      have lnm:(nm.map V.str).length = nm.length:=List.length_map _
      refine ⟨NL,rfl,⟨_,SqL.of (s4 _ _ (s02 _ _ hN))⟩,for_list (K:=K) (a:=NL) (xs:=nm.map V.str) (fun i σ H'=>∃ o7 o8:Option V,σ = [some (.ref r),some (.ref G),some (.ref NL),some (.int D),some (.ref B),some (.ref A),some (.ref M),o7,o8,none,none,none,none]∧Same H2 H'∧MkAt H' M (48 + 48 * i) (rnds BH i S0)) ⟨o7,none,rfl,s4,m4.more (by omega)⟩ (fun i σ H' _ ⟨_,_,_,s,_⟩=>SqL.of (s _ _ (s02 _ _ hN))) ?_ ?_⟩
      · clear s4 m4
        rintro i v σ H4 hv ⟨o7, o8, rfl, s4, m4⟩
        have il := (List.getElem?_eq_some_iff.mp hv).1
        refine ⟨B,rfl,⟨_,SqL.of (s4 _ _ eB2)⟩,for_list (K:=K) (a:=B) (xs:=bs) (fun j σ H'=>∃ o7:Option V,σ = [some (.ref r),some (.ref G),some (.ref NL),some (.int D),some (.ref B),some (.ref A),some (.ref M),o7,some v,none,none,none,none]∧Same H2 H'∧MkAt H' M (48 + 48 * i + 2 * j) ((BH.take j).foldl mkP (rnds BH i S0))) ⟨o7,rfl,s4,m4⟩ (fun i σ H' _ ⟨_,_,s,_⟩=>SqL.of (s _ _ eB2)) ?_ ?_⟩
        · clear s4 m4
          rintro j w σ H5 hw ⟨o7, rfl, s5, m5⟩
          obtain ⟨g, hg, p, rfl, hp⟩ := aB1.get hw
          have jl := (List.getElem?_eq_some_iff.mp hw).1
          have hp5 := s5 _ _ hp
          have tk':(BH.take (j + 1)).foldl mkP (rnds BH i S0) = mkP ((BH.take j).foldl mkP (rnds BH i S0)) g:=by
            rw [List.take_add_one, hg]
            show (BH.take j ++ [g]).foldl mkP _ = _
            rw [List.foldl_append]
            rfl
          rw [tk']
          generalize (BH.take j).foldl mkP (rnds BH i S0) = S at m5
          obtain ⟨q1, g1, z1⟩ := m5.get g.i
          obtain ⟨q2, g2, z2⟩ := m5.get g.j
          obtain ⟨H6,H7,d6,d7,x6,x7,_,m7⟩:=m5.two (g:=g) (by omega)
          obtain ⟨kv5, e5⟩ := m5.dk
          have hp6 := x6.kt' e5 _ _ hp5
          have s7:Same H2 H7:=fun b o e=>x7 b o (fun z=>by rw [z,hM] at e; cases e) (x6 b o (fun z=>by rw [z,hM] at e; cases e) (s5 b o e))
          have hit:(S g.i || S g.j) = true→mkP S g = mkA S g:=fun c=>if_pos c
          refine ⟨_, hp5, M, _, rfl, g1, ?_⟩
          rw [z1]
          refine ⟨fun h=>⟨fun _=>?t1,fun h=>nb h⟩,fun h=>⟨_,hp5,M,_,rfl,g2,?_⟩⟩
          rotate_left
          · rw [z2]
            refine ⟨fun h'=>?t2,fun h'=>⟨_,rfl,s5,?_⟩⟩
            rotate_left
            · have:mkP S g = S:=if_neg (by rw [h,h']; decide)
              rw [this]
              exact m5.more (by omega)
            have c:(S g.i || S g.j) = true:=by rw [h',Bool.or_true]
            refine ⟨_,hp5,M,_,rfl,d6,_,hp6,M,_,rfl,d7,_,rfl,s7,?_⟩
            rw [hit c]
            exact m7
          have c:(S g.i || S g.j) = true:=by rw [h,Bool.true_or]
          refine ⟨_,hp5,M,_,rfl,d6,_,hp6,M,_,rfl,d7,_,rfl,s7,?_⟩
          rw [hit c]
          exact m7
        · rintro σ H5 ⟨o7, rfl, s5, m5⟩
          rw [lbs, List.take_length] at m5
          exact ⟨_, _, rfl, s5, m5.more (by omega)⟩
      clear s4 m4
      rintro σ H4 ⟨o7, o8, rfl, s4, m4⟩
      rw [lnm] at m4
      have okB:GiOk nm.length BH:=fun g hg=>ok g (by rw [hBH] at hg; exact (List.mem_filter.mp hg).1)
      have named:∀ {X:Addr} {xs:List V} {js:List Ig} {H5:Hp},True:=trivial
      clear named
      refine ⟨B,rfl,⟨_,SqL.of (s4 _ _ eB2)⟩,comp_abs IgAt ig_up (fun H g y=>GmAt H y (nmd nm g)) (fun g y H H' kt h=>gm_up y _ H H' kt h) (by omega) (SqL.of (s4 _ _ eB2)) (aB1.imp fun v g r=>ig_up v g _ _ (kt_of s4) r) ?_ ?_⟩
      · intro v g H5 hv hg s5 P hP
        obtain ⟨p, rfl, hp⟩ := hv
        obtain ⟨o1, o2, _⟩ := okB g hg
        exact ⟨rfl,g,nm,⟨hp,s5 _ _ (s4 _ _ (s02 _ _ hN)),o1,o2⟩,fun v' H6 s6 h6=>hP _ _ s6 h6⟩
      intro E H5 us s5 _ e5 a5
      have aE5:All2 (GmAt H5) us (BH.map (nmd nm)):=all2_maps a5
      have s25 := s4.trans s5
      have m5 := m4.up fun o e => s5 _ _ e
      have s05 := s02.trans s25
      refine ⟨G,rfl,⟨_,SqL.of (s05 _ _ hG)⟩,comp_abs IgAt ig_up (fun H g y=>GmAt H y (nmd nm g)) (fun g y H H' kt h=>gm_up y _ H H' kt h) (by omega) (SqL.of (s05 _ _ hG)) (al.imp fun v g r=>ig_up v g _ _ (kt_of s05) r) ?_ ?_⟩
      · intro v g H6 hv hg s6 P hP
        obtain ⟨p, rfl, hp⟩ := hv
        obtain ⟨o1, o2, _⟩ := ok g hg
        exact ⟨rfl,g,nm,⟨hp,s6 _ _ (s05 _ _ hN),o1,o2⟩,fun v' H7 s7 h7=>hP _ _ s7 h7⟩
      intro W H6 ws s6 _ e6 a6
      have aW6:All2 (GmAt H6) ws (gs.map (nmd nm)):=all2_maps a6
      have s06 := s05.trans s6
      have m6 := m5.up fun o e => s6 _ _ e
      have e5' := s6 _ _ e5
      have aE6:=aE5.imp fun v g r=>gm_up v g _ _ (kt_of s6) r
      clear a5 a6 s4 m4 m5 aE5 e5 s25 s5
      have tk6 := tk.up s06
      obtain ⟨ps, tt, _⟩ := id tk6
      have gok:∀ {l:List Ig},GiOk nm.length l→(∀ g ∈ l,g ∈ gs)→∀ g ∈ l.map (nmd nm),(0 ≤ g.h∧g.h ≤ 2)∧g.a ≠ g.b:=fun {l} ol sub g hg=>by
        obtain ⟨x, hx, rfl⟩ := List.mem_map.mp hg
        obtain ⟨o1, o2, o3⟩ := ol x hx
        exact ⟨h02 x (sub x hx),fun z=>o3 (nx_inj nd o1 o2 z)⟩
      have lm:∀ l:List Ig,(l.map (nmd nm)).length = l.length:=fun l=>List.length_map _
      refine ⟨so,st,fi,one,two,rows,gs.map (nmd nm),ws,⟨hR.up (smt_off fun b o _ e=>s06 b o e),tb,b,bf,SqL.of (off_at tt e6 fun _=>nofun),aW6.imp fun v g r=>gm_up v g _ _ (off_kt tt) r,by rw [lm]; omega,gok ok fun g h=>h,tk6⟩,fun F fv p7 H7 sm7 nF eF tk7 stb7 aF=>?_⟩
      obtain ⟨kl7, kt7⟩ := smt_lst sm7 tk6
      have ndP:∀ l:List Gm,(plr l).Nodup:=fun l=>inc_nodup (inc_srt _)
      have plN:∀ {l:List Ig},GiOk nm.length l→(plr (l.map (nmd nm))).length ≤ 8:=fun {l} ol=>by
        rw [(plr_ix nd ol).length_eq, List.length_map]
        have:=List.length_filter_le (plays l) (List.range nm.length)
        rw [List.length_range] at this
        omega
      obtain ⟨kvW, w1, w2, w3⟩ := nq_pairs aF
      have lkW : kvW.length ≤ 8 := by
        have := congrArg List.length w2
        rw [List.length_map, List.length_map] at this
        have := plN ok
        omega
      refine ⟨fv,kvW,SqL.of eF,w1,by rw [w2]; exact List.pairwise_map.mpr ((ndP _).imp fun h z=>h (Sum.inr.inj z)),by omega,fun DW hDW=>?_⟩
      have s8:Same H7 (upd H7 DW (.dK kvW)):=same_upd hDW
      have e8:upd H7 DW (.dK kvW) DW = some (.dK kvW):=upd_same
      generalize upd H7 DW (.dK kvW) = H8 at s8 e8
      have tk8 := tk7.up s8
      obtain ⟨ps8, tt8, _⟩ := id tk8
      have sm08:SmT (T12 K) H H8:=fun b o n e=>s8 b o (sm7 b o n (s06 b o e))
      refine ⟨so,st,fi,one,two,rows,BH.map (nmd nm),us,⟨hR.up (smt_off sm08),tb,b,bf,SqL.of (off_at tt8 (s8 _ _ (kl7 _ _ e5')) fun _=>nofun),aE6.imp fun v g r=>gm_up v g _ _ (kt7.trans ((kt_of s8).trans (off_kt tt8))) r,by rw [lm]; omega,gok okB fun g h=>(by rw [hBH] at h; exact (List.mem_filter.mp h).1),tk8⟩,fun F' fv' p9 H9 sm9 nF' eF' tk9 stb9 aF'=>?_⟩
      obtain ⟨kl9, kt9⟩ := smt_lst sm9 tk8
      obtain ⟨kvA, v1, v2, v3⟩ := nq_pairs aF'
      have lkA : kvA.length ≤ 8 := by
        have := congrArg List.length v2
        rw [List.length_map, List.length_map] at this
        have := plN okB
        omega
      refine ⟨fv',kvA,SqL.of eF',v1,by rw [v2]; exact List.pairwise_map.mpr ((ndP _).imp fun h z=>h (Sum.inr.inj z)),by omega,fun DA hDA=>?_⟩
      have s10:Same H9 (upd H9 DA (.dK kvA)):=same_upd hDA
      have e10:upd H9 DA (.dK kvA) DA = some (.dK kvA):=upd_same
      generalize upd H9 DA (.dK kvA) = H10 at s10 e10
      have nDT:DW ≠ T12 K:=fun z=>by rw [z,tt8] at e8; cases e8
      have eW10 := s10 _ _ (sm9 _ _ nDT e8)
      have nMT : M ≠ T12 K := fun z => by
        obtain ⟨kv, e⟩ := m6.dk
        rw [z, tt] at e
        cases e
      have m10:MkAt H10 M _ _:=m6.up fun o e=>s10 _ _ (sm9 _ _ nMT (s8 _ _ (sm7 _ _ nMT e)))
      have eN10:=s10 _ _ (kl9 _ _ (s8 _ _ (kl7 _ _ (s06 _ _ hN))))
      have sm010:SmT (T12 K) H H10:=fun b o n e=>s10 b o (sm9 b o n (sm08 b o n e))
      have tk10 := tk9.up s10
      have w3' := fun x hx => w3 (ndP _) x hx
      have v3' := fun x hx => v3 (ndP _) x hx
      have nWA:DW ≠ DA:=fun z=>by rw [← z,sm9 _ _ nDT e8] at hDA; cases hDA
      have nMA : M ≠ DA := fun z => by
        obtain ⟨kv, e⟩ := m6.dk
        have := sm9 _ _ nMT (s8 _ _ (sm7 _ _ nMT e))
        rw [z, hDA] at this
        cases this
      refine ⟨DA, kvA, _, rfl, e10, v2, fun o => ?_⟩
      have x11:Sx DA H10 (upd H10 DA (.frz o (.dK kvA))):=Sx.upd
      have e11:upd H10 DA (.frz o (.dK kvA)) DA = some (.frz o (.dK kvA)):=upd_same
      have kt11:Kt H10 (upd H10 DA (.frz o (.dK kvA))):=x11.kt' e10
      have tk11 := tab_sx tk10 x11 (.inr ⟨_, e10⟩)
      have nA0:∀ {b:Addr} {u:HO},b ≠ T12 K→H b = some u→b ≠ DA:=fun {b u} n e z=>by
        have := sm9 b u n (sm08 b u n e)
        rw [z, hDA] at this
        cases this
      have sm11:SmT (T12 K) H (upd H10 DA (.frz o (.dK kvA))):=fun b u n e=>x11 b u (nA0 n e) (sm010 b u n e)
      have eW11 := x11 _ _ nWA eW10
      have eN11:=x11 _ _ (fun z=>by rw [z,e10] at eN10; cases eN10) eN10
      have m11:MkAt (upd H10 DA (.frz o (.dK kvA))) M _ _:=m10.up fun u e=>x11 _ _ nMA e
      generalize upd H10 DA (.frz o (.dK kvA)) = H11 at x11 e11 kt11 tk11 sm11 eW11 eN11 m11
      refine for_keys v2 (fun i σ H'=>∃ o12:Option V,σ = [some (.ref r),some (.ref G),some (.ref NL),some (.int D),some (.ref B),some (.ref A),some (.ref M),o7,o8,some (.ref E),some (.ref DW),some (.ref DA),o12]∧H' = H11) ⟨none,rfl,rfl⟩ (fun i σ H' ⟨_,_,h⟩=>h ▸ e11) ?_ ?_
      · rintro i x σ H' hx ⟨o12, rfl, rfl⟩
        have xm := List.mem_of_getElem? hx
        obtain ⟨kk, hk, pk, rfl⟩ := plr_nx nd okB xm
        obtain ⟨i1, i2, i3⟩ := ix_name nd hk
        obtain ⟨qq, dg, ez⟩ := m11.get kk
        refine ⟨.inl ⟨rfl,_,SqL.of eN11⟩,_,kk,_,SqL.of eN11,rfl,flat_strs' nm,i1,i2,i3,M,_,rfl,dg,?_⟩
        rw [ez]
        refine ⟨fun h=>?_,fun h=>⟨fun h=>nb h,fun _=>⟨_,rfl,rfl⟩⟩⟩
        have hn:rnds BH nm.length S0 kk = false:=by simpa using h
        have eq:=part_told (so:=so) (st:=st) (fi:=fi) (one:=one) (two:=two) (rows:=rows) nd ok (D:=D) (S0:=S0) (fun k hk=>by rw [hS0]; exact ahead_plays (.inr (by rw [hAH]; exact hk))) stb7 (by rw [← hBH]; exact stb9) hk (by rw [← hBH]; exact hn)
        rw [← hBH] at eq
        have mw:nx nm kk ∈ plr (gs.map (nmd nm)):=nx_plr nd ok hk (by
          obtain ⟨g, hg, c⟩ := plays_iff.mp pk
          rw [hBH] at hg
          exact plays_iff.mpr ⟨g,(List.mem_filter.mp hg).1,c⟩)
        obtain ⟨q1, z1, t1⟩ := w3' _ mw
        obtain ⟨q2, z2, t2⟩ := v3' _ xm
        have gW:DGet H' DW (.str (nx nm kk)) (valV kvW (Sum.inr (nx nm kk))):=.inl ⟨_,Sum.inr _,.inl eW11,rfl,rfl⟩
        have gA:DGet H' DA (.str (nx nm kk)) (valV kvA (Sum.inr (nx nm kk))):=.inl ⟨_,Sum.inr _,.inr ⟨o,e11⟩,rfl,rfl⟩
        rw [z1] at gW
        rw [z2] at gA
        rw [eq] at t1
        refine ⟨DW,_,rfl,gW,DA,_,rfl,gA,_,_,.tup (SqT.of (kt11 _ _ (s10 _ _ (kt9 _ _ (s8 _ _ t1))))) (.cons (.int _) (.cons (.int _) .nil)),.tup (SqT.of (kt11 _ _ (s10 _ _ t2))) (.cons (.int _) (.cons (.int _) .nil)),rfl,rfl,?_⟩
        rw [eqv_shaped rfl]
        exact ⟨fun h => nb h, fun _ => ⟨_, rfl, rfl⟩⟩
      · rintro σ H' ⟨o12, rfl, rfl⟩
        exact k _ tk11 sm11
theorem lo_low (t:Int) {b:Int} (hb:0 < b):Lo (lowT t b,lowB t b)∧rv (lowT t b,lowB t b) = rq t b:=⟨⟨lowB_pos t hb,low_gcd t hb⟩,rq_low hb⟩
theorem due_low {x y:Q2} {d:Int} (hx:Lo x) (hy:Lo y) (h:rv y = rv x + (d:Rat)):y = (lowT (x.1 + d * x.2) x.2,lowB (x.1 + d * x.2) x.2):=by
  obtain ⟨l, r⟩ := lo_low (x.1 + d * x.2) hx.pos
  refine hy.eq l ?_
  rw [r, h]
  have p1 := ic_pos hx.pos
  unfold rv rq
  rw [Rat.intCast_add, Rat.intCast_mul]
  generalize (x.1 : Rat) = a at *
  generalize (x.2 : Rat) = b at *
  generalize (d : Rat) = c at *
  grind
theorem nq_map {H:Hp} {l:List Str} {f:Str→Q2} {vs:List V} (a:All2 (NqAt H) vs (l.map fun x=>(x,f x))) {i:Nat} {v:V} (h:vs[i]? = some v):∃ x,l[i]? = some x∧NqAt H v (x,f x):=by
  obtain ⟨s, hs, r⟩ := a.get h
  rw [List.getElem?_map] at hs
  obtain ⟨x, hx, rfl⟩ := Option.map_eq_some_iff.mp hs
  exact ⟨x, hx, r⟩
theorem smt_seq {K:PySem.W.Frag} {T a:Addr} {H H':Hp} {pos:Pos} {q:Str} {xs:List V} (sm:SmT T H H') (tk:TabOk H T pos q) (s:SqL K H a xs):SqL K H' a xs:=by
  obtain ⟨ps, tt, _⟩ := tk
  rcases s with (s | ⟨ob, s⟩) | s
  · exact .inl (.inl (sm _ _ (fun z=>by rw [z,tt] at s; cases s) s))
  · exact .inl (.inr ⟨ob,sm _ _ (fun z=>by rw [z,tt] at s; cases s) s⟩)
  · exact .inr s
theorem sc_law:FnScope ["_law_script","_law_many","_law_names_here","_law_others","_law_days","_law_games","_law_k","_law_numbers","_law_drawn","_law_more","_law_rows_here","_law_one","_law_two","_law_played","_law_turned_one","_law_told","_law_again","_law_name","_law_worth","_law_due"] ["_law_script"] (defScope s_law):=⟨rfl,rfl,rfl,by decide +kernel,rfl,by decide +kernel,by decide +kernel⟩
theorem ok_law (d:Dfn K mg "law" s_law ["_law_script"]) (er:Errs K mg c_Capped c_Early c_NoTable c_Rested c_Rule) (n_len:mg "len" = none) (n_dict:mg "dict" = none) (n_enumerate:mg "enumerate" = none) (n_range:mg "range" = none)  (c_l_parted:Cal P w K mg base "_law_parted" ["_law_rule_here","_law_games","_law_names_here","_law_day"] 11 (sp_l_parted K ns)) (c_l_cell:Cal P w K mg base "_law_cell" ["_law_script","_law_k"] 1 (sp_l_cell K ns)) (c_l_rule:Cal P w K mg base "_law_rule" ["_law_drawn","_law_rows_here"] 9 (sp_l_rule K ns)) (c_l_low:Cal P w K mg base "_law_low" ["_law_top","_law_bottom"] 2 (sp_l_low K ns)) (c_running:Cal P w K mg base "running" ["rule","games"] 10 (sp_running K ns)) (c_l_shuffled:Cal P w K mg base "_law_shuffled" ["_law_script","_law_games"] 2 (sp_l_shuffled K ns)) (c_l_named:Cal P w K mg base "_law_named" ["_law_played","_law_names_here"] 1 (sp_l_named K ns)) (c_l_otherwise:Cal P w K mg base "_law_otherwise" ["_law_played","_law_cell_here","_law_later"] 1 (sp_l_otherwise K ns)) (c_l_rows:Cal P w K mg base "_law_rows" ["_law_script"] 3 (sp_l_rows K ns)) (c_l_number:Cal P w K mg base "_law_number" ["_law_cell_here"] 1 (sp_l_number K ns)) (c_l_game:Cal P w K mg base "_law_game" ["_law_cell_here","_law_many","_law_days"] 1 (sp_l_game K ns)) (c_l_names:Cal P w K mg base "_law_names" ["_law_cell_here","_law_many"] 1 (sp_l_names K ns)):Cal P w K mg base "law" ["_law_script"] 12 (sp_lawBT "in_order" K ns):=by
  refine d.cal (k:=11) sc_law (fun vs H Q E h=>?_) (fun f cdv A outer s H vs Q E hr h=>?_)
  · match vs, h with
    | [.ref a], _ => rfl
  · match vs, h with
    | [.ref a], hq0 =>
      obtain ⟨hS, hl, hb, hT, k⟩ := hq0
      refine ⟨_,(@pss_cons _ _ _ _ _ (@ps_set _ _ (1) _ _ _ _ sc_law.nd rfl (by first | exact Or.inl rfl | exact Or.inr rfl) (@pe_op _ _ _ _ _ _ _ _ o_add pe_int (@pe_op _ _ _ _ _ _ _ _ o_mod (@e_call _ _ _ _ _ _ _ _ _ _ _ c_l_cell hr (by decide) (by rfl) (@pa_cons _ _ _ _ _ (dv 0) (@pa_cons _ _ _ _ _ pe_int pa_nil (by rfl)) (by rfl)) (by decide) (by rfl) (by rfl)) pe_int)) (by rfl) (by first | exact .inl rfl | exact .inr rfl | assumption)) (@pss_cons _ _ _ _ _ (@ps_set _ _ (2) _ _ _ _ sc_law.nd rfl (by first | exact Or.inl rfl | exact Or.inr rfl) (@e_call _ _ _ _ _ _ _ _ _ _ _ c_l_names hr (by decide) (by rfl) (@pa_cons _ _ _ _ _ (@e_call _ _ _ _ _ _ _ _ _ _ _ c_l_cell hr (by decide) (by rfl) (@pa_cons _ _ _ _ _ (dv 0) (@pa_cons _ _ _ _ _ pe_int pa_nil (by rfl)) (by rfl)) (by decide) (by rfl) (by rfl)) (@pa_cons _ _ _ _ _ (dv 1) pa_nil (by rfl)) (by rfl)) (by decide) (by rfl) (by rfl)) (by rfl) (by first | exact .inl rfl | exact .inr rfl | assumption)) (@pss_cons _ _ _ _ _ (@ps_set _ _ (3) _ _ _ _ sc_law.nd rfl (by first | exact Or.inl rfl | exact Or.inr rfl) (@e_call _ _ _ _ _ _ _ _ _ _ _ c_l_names hr (by decide) (by rfl) (@pa_cons _ _ _ _ _ (@e_call _ _ _ _ _ _ _ _ _ _ _ c_l_cell hr (by decide) (by rfl) (@pa_cons _ _ _ _ _ (dv 0) (@pa_cons _ _ _ _ _ pe_int pa_nil (by rfl)) (by rfl)) (by decide) (by rfl) (by rfl)) (@pa_cons _ _ _ _ _ (dv 1) pa_nil (by rfl)) (by rfl)) (by decide) (by rfl) (by rfl)) (by rfl) (by first | exact .inl rfl | exact .inr rfl | assumption)) (@ss_cutE _ _ _ _ _ (@ps_set _ _ (4) _ _ _ _ sc_law.nd rfl (by first | exact Or.inl rfl | exact Or.inr rfl) (@pe_ix _ _ _ _ _ _ _ i_lst (@e_lst _ _ _ _ (@pa_cons _ _ _ _ _ pe_int (@pa_cons _ _ _ _ _ pe_int (@pa_cons _ _ _ _ _ pe_int (@pa_cons _ _ _ _ _ pe_int pa_nil (by rfl)) (by rfl)) (by rfl)) (by rfl))) (@pe_op _ _ _ _ _ _ _ _ o_mod (@pe_op _ _ _ _ _ _ _ _ o_div (@e_call _ _ _ _ _ _ _ _ _ _ _ c_l_cell hr (by decide) (by rfl) (@pa_cons _ _ _ _ _ (dv 0) (@pa_cons _ _ _ _ _ pe_int pa_nil (by rfl)) (by rfl)) (by decide) (by rfl) (by rfl)) pe_int) pe_int) (fun _ _=>rfl)) (by rfl) (by first | exact .inl rfl | exact .inr rfl | assumption)) (@pss_cons _ _ _ _ _ (@ps_set _ _ (5) _ _ _ _ sc_law.nd rfl (by first | exact Or.inl rfl | exact Or.inr rfl) (@pe_lst _ _ _ _ pa_nil) (by rfl) (by first | exact .inl rfl | exact .inr rfl | assumption)) (@pss_cons _ _ _ _ _ (@ps_for _ _ _ _ _ _ _ _ PassesOwn.never rfl (@pi_range1 _ _ _ _ _ _ (by rfl) n_range (@pa_cons _ _ _ _ _ (@pe_op _ _ _ _ _ _ _ _ o_mod (@e_call _ _ _ _ _ _ _ _ _ _ _ c_l_cell hr (by decide) (by rfl) (@pa_cons _ _ _ _ _ (dv 0) (@pa_cons _ _ _ _ _ pe_int pa_nil (by rfl)) (by rfl)) (by decide) (by rfl) (by rfl)) pe_int) pa_nil (by rfl)) (by rfl)) (@pg_name _ _ (6) _ sc_law.nd rfl (by first | exact Or.inl rfl | exact Or.inr rfl) (by first | exact .inl rfl | exact .inr rfl | assumption)) (@pss_one _ _ _ (@ps_expr _ _ _ _ (@pe_bm _ _ _ _ _ _ _ _ _ _ _ _ PySem.F.plainAttrs_list PySem.F.slot_list_append PySem.F.type_list_append mt_append (dv 5) (@pa_cons _ _ _ _ _ (@e_call _ _ _ _ _ _ _ _ _ _ _ c_l_game hr (by decide) (by rfl) (@pa_cons _ _ _ _ _ (@pe_op _ _ _ _ _ _ _ _ o_mod (@e_call _ _ _ _ _ _ _ _ _ _ _ c_l_cell hr (by decide) (by rfl) (@pa_cons _ _ _ _ _ (dv 0) (@pa_cons _ _ _ _ _ (@pe_op _ _ _ _ _ _ _ _ o_add pe_int (dv 6)) pa_nil (by rfl)) (by rfl)) (by decide) (by rfl) (by rfl)) (@pe_op _ _ _ _ _ _ _ _ o_pow pe_int pe_int)) (@pa_cons _ _ _ _ _ (dv 1) (@pa_cons _ _ _ _ _ (dv 4) pa_nil (by rfl)) (by rfl)) (by rfl)) (by decide) (by rfl) (by rfl)) pa_nil (by rfl)) (by rfl) (by rfl) (by rfl) (by rfl) (by rfl)) (by rfl))) (by intro _; rfl)) (@pss_cons _ _ _ _ _ (@ps_compN _ _ _ _ _ _ _ _ (7) _ _ _ _ _ ["_law_j"] ["_law_script"] [0] rfl (@pi_range1 _ _ _ _ _ _ (by rfl) n_range (@pa_cons _ _ _ _ _ pe_int pa_nil (by rfl)) (by rfl)) (fun C s H fp=>(@pg_name _ _ (0) _ (show List.Nodup [("_law_j":Str),("_law_script":Str)] by decide +kernel) rfl (by first | exact Or.inl rfl | exact Or.inr rfl) (by first | exact .inl rfl | exact .inr rfl | assumption))) (fun C s H fp=>(@e_call _ _ _ _ _ _ _ _ _ _ _ c_l_number hr (by decide) (by rfl) (@pa_cons _ _ _ _ _ (@e_call _ _ _ _ _ _ _ _ _ _ _ c_l_cell hr (by decide) (by rfl) (@pa_cons _ _ _ _ _ (dv 1) (@pa_cons _ _ _ _ _ (@pe_op _ _ _ _ _ _ _ _ o_add pe_int (dv 0)) pa_nil (by rfl)) (by rfl)) (by decide) (by rfl) (by rfl)) pa_nil (by rfl)) (by decide) (by rfl) (by rfl))) rfl rfl (by decide +kernel) (by decide +kernel) (by rfl) ⟨rfl,True.intro⟩ ⟨⟨rfl,rfl,rfl,rfl⟩,True.intro⟩ sc_law.nd rfl rfl (by intro _; rfl) (by rfl)) (@pss_cons _ _ _ _ _ (@ps_set _ _ (8) _ _ _ _ sc_law.nd rfl (by first | exact Or.inl rfl | exact Or.inr rfl) (@e_tup _ _ _ _ _ (@pa_cons _ _ _ _ _ (@pe_op _ _ _ _ _ _ _ _ o_mod (@e_call _ _ _ _ _ _ _ _ _ _ _ c_l_cell hr (by decide) (by rfl) (@pa_cons _ _ _ _ _ (dv 0) (@pa_cons _ _ _ _ _ pe_int pa_nil (by rfl)) (by rfl)) (by decide) (by rfl) (by rfl)) pe_int) (@pa_cons _ _ _ _ _ (@pe_ix _ _ _ _ _ _ _ i_lst (dv 7) pe_int (fun _ _=>rfl)) (@pa_cons _ _ _ _ _ (@pe_ix _ _ _ _ _ _ _ i_lst (dv 7) pe_int (fun _ _=>rfl)) (@pa_cons _ _ _ _ _ (@pe_ix _ _ _ _ _ _ _ i_lst (dv 7) pe_int (fun _ _=>rfl)) (@pa_cons _ _ _ _ _ (@pe_ix _ _ _ _ _ _ _ i_lst (dv 7) pe_int (fun _ _=>rfl)) pa_nil (by rfl)) (by rfl)) (by rfl)) (by rfl)) (by rfl))) (by rfl) (by first | exact .inl rfl | exact .inr rfl | assumption)) (@pss_cons _ _ _ _ _ (@ps_set _ _ (9) _ _ _ _ sc_law.nd rfl (by first | exact Or.inl rfl | exact Or.inr rfl) (@e_tup _ _ _ _ _ (@pa_cons _ _ _ _ _ (@pe_ix _ _ _ _ _ _ _ i_tup (dv 8) pe_int (fun _ _=>rfl)) (@pa_cons _ _ _ _ _ (@pe_ix _ _ _ _ _ _ _ i_tup (dv 8) pe_int (fun _ _=>rfl)) (@pa_cons _ _ _ _ _ (@e_call _ _ _ _ _ _ _ _ _ _ _ c_l_number hr (by decide) (by rfl) (@pa_cons _ _ _ _ _ (@e_call _ _ _ _ _ _ _ _ _ _ _ c_l_cell hr (by decide) (by rfl) (@pa_cons _ _ _ _ _ (dv 0) (@pa_cons _ _ _ _ _ pe_int pa_nil (by rfl)) (by rfl)) (by decide) (by rfl) (by rfl)) pa_nil (by rfl)) (by decide) (by rfl) (by rfl)) (@pa_cons _ _ _ _ _ (@pe_ix _ _ _ _ _ _ _ i_tup (dv 8) pe_int (fun _ _=>rfl)) (@pa_cons _ _ _ _ _ (@pe_ix _ _ _ _ _ _ _ i_tup (dv 8) pe_int (fun _ _=>rfl)) pa_nil (by rfl)) (by rfl)) (by rfl)) (by rfl)) (by rfl))) (by rfl) (by first | exact .inl rfl | exact .inr rfl | assumption)) (@pss_cons _ _ _ _ _ (@ps_set _ _ (10) _ _ _ _ sc_law.nd rfl (by first | exact Or.inl rfl | exact Or.inr rfl) (@e_call _ _ _ _ _ _ _ _ _ _ _ c_l_rows hr (by decide) (by rfl) (@pa_cons _ _ _ _ _ (dv 0) pa_nil (by rfl)) (by decide) (by rfl) (by rfl)) (by rfl) (by first | exact .inl rfl | exact .inr rfl | assumption)) (@pss_cons _ _ _ _ _ (@ps_compN _ _ _ _ _ _ _ _ (11) _ _ _ _ _ ["_law_played"] ["_law_names_here"] [2] rfl (@pi_list _ _ _ _ (dv 5)) (fun C s H fp=>(@pg_name _ _ (0) _ (show List.Nodup [("_law_played":Str),("_law_names_here":Str)] by decide +kernel) rfl (by first | exact Or.inl rfl | exact Or.inr rfl) (by first | exact .inl rfl | exact .inr rfl | assumption))) (fun C s H fp=>(@e_call _ _ _ _ _ _ _ _ _ _ _ c_l_named hr (by decide) (by rfl) (@pa_cons _ _ _ _ _ (dv 0) (@pa_cons _ _ _ _ _ (dv 1) pa_nil (by rfl)) (by rfl)) (by decide) (by rfl) (by rfl))) rfl rfl (by decide +kernel) (by decide +kernel) (by rfl) ⟨rfl,True.intro⟩ ⟨⟨rfl,rfl,rfl,rfl⟩,True.intro⟩ sc_law.nd rfl rfl (by intro _; rfl) (by rfl)) (@pss_cons _ _ _ _ _ (@ps_set _ _ (12) _ _ _ _ sc_law.nd rfl (by first | exact Or.inl rfl | exact Or.inr rfl) (@pe_lst _ _ _ _ pa_nil) (by rfl) (by first | exact .inl rfl | exact .inr rfl | assumption)) (@pss_cons _ _ _ _ _ (@ps_for _ _ _ _ _ _ _ _ PassesOwn.never rfl (@pi_enum _ _ _ _ _ _ _ _ (by rfl) n_enumerate (@pa_cons _ _ _ _ _ (@e_call _ _ _ _ _ _ _ _ _ _ _ c_l_shuffled hr (by decide) (by rfl) (@pa_cons _ _ _ _ _ (dv 0) (@pa_cons _ _ _ _ _ (dv 5) pa_nil (by rfl)) (by rfl)) (by decide) (by rfl) (by rfl)) pa_nil (by rfl)) (by rfl)) (@pg_tup _ _ _ _ _ _ rfl (@pgs_cons _ _ _ _ _ (@pg_name _ _ (6) _ sc_law.nd rfl (by first | exact Or.inl rfl | exact Or.inr rfl) (by first | exact .inl rfl | exact .inr rfl | assumption)) (@pgs_cons _ _ _ _ _ (@pg_name _ _ (13) _ sc_law.nd rfl (by first | exact Or.inl rfl | exact Or.inr rfl) (by first | exact .inl rfl | exact .inr rfl | assumption)) pgs_nil (by rfl)) (by rfl)) (by rfl) (by rfl)) (@pss_cons _ _ _ _ _ (@ps_set _ _ (14) _ _ _ _ sc_law.nd rfl (by first | exact Or.inl rfl | exact Or.inr rfl) (@e_call _ _ _ _ _ _ _ _ _ _ _ c_l_otherwise hr (by decide) (by rfl) (@pa_cons _ _ _ _ _ (dv 13) (@pa_cons _ _ _ _ _ (@pe_op _ _ _ _ _ _ _ _ o_div (@e_call _ _ _ _ _ _ _ _ _ _ _ c_l_cell hr (by decide) (by rfl) (@pa_cons _ _ _ _ _ (dv 0) (@pa_cons _ _ _ _ _ (@pe_op _ _ _ _ _ _ _ _ o_add pe_int (@pe_op _ _ _ _ _ _ _ _ o_mod (dv 6) pe_int)) pa_nil (by rfl)) (by rfl)) (by decide) (by rfl) (by rfl)) (@pe_op _ _ _ _ _ _ _ _ o_add pe_int (dv 6))) (@pa_cons _ _ _ _ _ (@pe_op _ _ _ _ _ _ _ _ o_mod (@e_call _ _ _ _ _ _ _ _ _ _ _ c_l_cell hr (by decide) (by rfl) (@pa_cons _ _ _ _ _ (dv 0) (@pa_cons _ _ _ _ _ pe_int pa_nil (by rfl)) (by rfl)) (by decide) (by rfl) (by rfl)) pe_int) pa_nil (by rfl)) (by rfl)) (by rfl)) (by decide) (by rfl) (by rfl)) (by rfl) (by first | exact .inl rfl | exact .inr rfl | assumption)) (@pss_one _ _ _ (@ps_expr _ _ _ _ (@pe_bm _ _ _ _ _ _ _ _ _ _ _ _ PySem.F.plainAttrs_list PySem.F.slot_list_append PySem.F.type_list_append mt_append (dv 12) (@pa_cons _ _ _ _ _ (@e_call _ _ _ _ _ _ _ _ _ _ _ c_l_named hr (by decide) (by rfl) (@pa_cons _ _ _ _ _ (dv 14) (@pa_cons _ _ _ _ _ (dv 3) pa_nil (by rfl)) (by rfl)) (by decide) (by rfl) (by rfl)) pa_nil (by rfl)) (by rfl) (by rfl) (by rfl) (by rfl) (by rfl)) (by rfl)))) (by intro _; rfl)) (@pss_cons _ _ _ _ _ (@ps_set _ _ (15) _ _ _ _ sc_law.nd rfl (by first | exact Or.inl rfl | exact Or.inr rfl) (@e_call _ _ _ _ _ _ _ _ _ _ _ c_running hr (by decide) (by rfl) (@pa_cons _ _ _ _ _ (@e_call _ _ _ _ _ _ _ _ _ _ _ c_l_rule hr (by decide) (by rfl) (@pa_cons _ _ _ _ _ (dv 8) (@pa_cons _ _ _ _ _ (dv 10) pa_nil (by rfl)) (by rfl)) (by decide) (by rfl) (by rfl)) (@pa_cons _ _ _ _ _ (dv 11) pa_nil (by rfl)) (by rfl)) (by decide) (by rfl) (by rfl)) (by rfl) (by first | exact .inl rfl | exact .inr rfl | assumption)) (@pss_cons _ _ _ _ _ (@ps_set _ _ (16) _ _ _ _ sc_law.nd rfl (by first | exact Or.inl rfl | exact Or.inr rfl) (@pe_callTy _ _ _ _ _ _ _ _ _ (@c_dictL _ rfl) (by rfl) n_dict (by decide +kernel) (@pa_cons _ _ _ _ _ (@e_call _ _ _ _ _ _ _ _ _ _ _ c_running hr (by decide) (by rfl) (@pa_cons _ _ _ _ _ (@e_call _ _ _ _ _ _ _ _ _ _ _ c_l_rule hr (by decide) (by rfl) (@pa_cons _ _ _ _ _ (dv 9) (@pa_cons _ _ _ _ _ (dv 10) pa_nil (by rfl)) (by rfl)) (by decide) (by rfl) (by rfl)) (@pa_cons _ _ _ _ _ (dv 12) pa_nil (by rfl)) (by rfl)) (by decide) (by rfl) (by rfl)) pa_nil (by rfl)) (by decide) (by decide) (by rfl) (by rfl)) (by rfl) (by first | exact .inl rfl | exact .inr rfl | assumption)) (@pss_cons _ _ _ _ _ (@s_if _ _ _ _ _ _ _ _ (@t_cmp _ _ _ _ _ _ _ _ o_ne (@pe_callB _ _ _ _ _ _ _ _ _ call_lenD (by rfl) n_len (by decide +kernel) (@pa_cons _ _ _ _ _ (dv 16) pa_nil (by rfl)) (by decide) (by decide) (by rfl) (by rfl)) (@pe_callB _ _ _ _ _ _ _ _ _ c_len (by rfl) n_len (by decide +kernel) (@pa_cons _ _ _ _ _ (dv 15) pa_nil (by rfl)) (by decide) (by decide) (by rfl) (by rfl)) (@nomark _ _ (by decide) (by decide))) (@pss_one _ _ _ (@ps_ret _ _ _ _ pe_bl)) pss_nil) (@pss_cons _ _ _ _ _ (@ps_for _ _ _ _ _ _ _ _ PassesOwn.never rfl (@pi_list _ _ _ _ (dv 15)) (@pg_tup _ _ _ _ _ _ rfl (@pgs_cons _ _ _ _ _ (@pg_name _ _ (17) _ sc_law.nd rfl (by first | exact Or.inl rfl | exact Or.inr rfl) (by first | exact .inl rfl | exact .inr rfl | assumption)) (@pgs_cons _ _ _ _ _ (@pg_name _ _ (18) _ sc_law.nd rfl (by first | exact Or.inl rfl | exact Or.inr rfl) (by first | exact .inl rfl | exact .inr rfl | assumption)) pgs_nil (by rfl)) (by rfl)) (by rfl) (by rfl)) (@pss_cons _ _ _ _ _ (@ps_set _ _ (19) _ _ _ _ sc_law.nd rfl (by first | exact Or.inl rfl | exact Or.inr rfl) (@e_call _ _ _ _ _ _ _ _ _ _ _ c_l_low hr (by decide) (by rfl) (@pa_cons _ _ _ _ _ (@pe_op _ _ _ _ _ _ _ _ o_add (@pe_ix _ _ _ _ _ _ _ i_tup (dv 18) pe_int (fun _ _=>rfl)) (@pe_op _ _ _ _ _ _ _ _ o_mul (@pe_op _ _ _ _ _ _ _ _ o_sub (@pe_ix _ _ _ _ _ _ _ i_tup (dv 9) pe_int (fun _ _=>rfl)) (@pe_ix _ _ _ _ _ _ _ i_tup (dv 8) pe_int (fun _ _=>rfl))) (@pe_ix _ _ _ _ _ _ _ i_tup (dv 18) pe_int (fun _ _=>rfl)))) (@pa_cons _ _ _ _ _ (@pe_ix _ _ _ _ _ _ _ i_tup (dv 18) pe_int (fun _ _=>rfl)) pa_nil (by rfl)) (by rfl)) (by decide) (by rfl) (by rfl)) (by rfl) (by first | exact .inl rfl | exact .inr rfl | assumption)) (@pss_one _ _ _ (@s_if _ _ _ _ _ _ _ _ (@t_cmp _ _ _ _ _ _ _ _ (@o_neD _ hr.units) (@pe_dget2 _ _ _ _ _ _ _ _ _ (@u1 _ _ hr.units) (dv 16) (@pe_ix _ _ _ _ _ _ _ i_lst (dv 3) (@pe_bm _ _ _ _ _ _ _ _ _ _ _ _ PySem.F.plainAttrs_list PySem.F.slot_list_index PySem.F.type_list_index m_lidx (dv 2) (@pa_cons _ _ _ _ _ (dv 17) pa_nil (by rfl)) (by rfl) (by rfl) (by rfl) (by rfl) (by rfl)) (fun _ _=>rfl)) pe_non ⟨rfl,rfl,rfl,rfl⟩) (dv 19) (@nomark _ _ (by decide) (by decide))) (@pss_one _ _ _ (@ps_ret _ _ _ _ pe_bl)) pss_nil))) (by intro _; rfl)) (@pss_one _ _ _ (@ps_ret _ _ _ _ (@e_call _ _ _ _ _ _ _ _ _ _ _ c_l_parted hr (by decide) (by rfl) (@pa_cons _ _ _ _ _ (@e_call _ _ _ _ _ _ _ _ _ _ _ c_l_rule hr (by decide) (by rfl) (@pa_cons _ _ _ _ _ (dv 8) (@pa_cons _ _ _ _ _ (dv 10) pa_nil (by rfl)) (by rfl)) (by decide) (by rfl) (by rfl)) (@pa_cons _ _ _ _ _ (dv 5) (@pa_cons _ _ _ _ _ (dv 2) (@pa_cons _ _ _ _ _ (@pe_op _ _ _ _ _ _ _ _ o_mod (@e_call _ _ _ _ _ _ _ _ _ _ _ c_l_cell hr (by decide) (by rfl) (@pa_cons _ _ _ _ _ (dv 0) (@pa_cons _ _ _ _ _ pe_int pa_nil (by rfl)) (by rfl)) (by decide) (by rfl) (by rfl)) (dv 4)) pa_nil (by rfl)) (by rfl)) (by rfl)) (by rfl)) (by decide) (by rfl) (by rfl))))))))))))))))))))),?_⟩
      have tk0:TabOk H (T12 K) lp12 q12:=⟨#[],hT,trivial,.inl rfl⟩
      refine ⟨hS,⟨by decide,by decide,hb⟩,fun c2 _=>⟨(by show (0:Int) < 7; decide),hS,⟨by decide,by decide,hb⟩,fun c1 _=>?_⟩⟩
      have y0:=Int.emod_nonneg c2 (show (7:Int) ≠ 0 by decide)
      have y1:=Int.emod_lt_of_pos c2 (show (0:Int) < 7 by decide)
      refine ⟨⟨by show 0 ≤ 2 + c2 % 7; omega,by show 2 + c2 % 7 ≤ 8; omega⟩,fun NL nm H1 s1 e1 l1 nd sok=>?_⟩
      have l1 : (nm.length : Int) = 2 + c2 % 7 := l1
      refine ⟨s1.seq hS,⟨by decide,by decide,hb⟩,fun c3 _=>⟨⟨by show 0 ≤ 2 + c2 % 7; omega,by show 2 + c2 % 7 ≤ 8; omega⟩,fun OL oth H1' s1' e1' l1' nd' sok'=>?_⟩⟩
      have l1' : (oth.length : Int) = 2 + c2 % 7 := l1'
      have ln : nm.length = oth.length := by omega
      have s01 := s1.trans s1'
      have e1 := s1' _ _ e1
      refine ⟨fun σ H'=>∃ ds:Int,σ = [some (.ref a),some (.int (2 + c2 % 7)),some (.ref NL),some (.ref OL),some (.int ds),none,none,none,none,none,none,none,none,none,none,none,none,none,none,none]∧Same H1' H'∧1 ≤ ds,?_,?_⟩
      · refine fun P H2 s2 e2=>⟨(s01.trans s2).seq hS,⟨by decide,by decide,hb⟩,fun c3 _=>⟨⟨by decide,bd_lit rfl⟩,(by show (0:Int) < 4; decide),?_⟩⟩
        have:c3 / 7 % 4 = 0 ∨ c3 / 7 % 4 = 1 ∨ c3 / 7 % 4 = 2 ∨ c3 / 7 % 4 = 3:=by omega
        rcases this with z | z | z | z
        · exact ⟨_,.int 2,SqL.of e2,(by show atI _ (c3 / 7 % 4) = _; rw [z]; rfl),2,rfl,s2,by decide⟩
        · exact ⟨_,.int 4,SqL.of e2,(by show atI _ (c3 / 7 % 4) = _; rw [z]; rfl),4,rfl,s2,by decide⟩
        · exact ⟨_,.int 40,SqL.of e2,(by show atI _ (c3 / 7 % 4) = _; rw [z]; rfl),40,rfl,s2,by decide⟩
        · exact ⟨_,.int 5000,SqL.of e2,(by show atI _ (c3 / 7 % 4) = _; rw [z]; rfl),5000,rfl,s2,by decide⟩
      rintro σ H2 ⟨ds, rfl, s2, ds1⟩
      have s02 := s01.trans s2
      have e2 := s2 _ _ e1
      have e2' := s2 _ _ e1'
      refine ⟨by decide, fun G hG => ?_⟩
      have hG0 : H2 G = none := hG
      have s3 : Same H2 (upd H2 G (.lst [])) := same_upd hG
      have e3:upd H2 G (.lst []) G = some (.lst []):=upd_same
      generalize upd H2 G (.lst []) = H3 at s3 e3
      refine ⟨(s02.trans s3).seq hS,⟨by decide,by decide,hb⟩,fun c4 _=>⟨(by show (0:Int) < 25; decide),?_⟩⟩
      have x0:=Int.emod_nonneg c4 (show (25:Int) ≠ 0 by decide)
      have x1:=Int.emod_lt_of_pos c4 (show (0:Int) < 25 by decide)
      refine ⟨_,rfl,by omega,by omega,for_range (lo:=0) (n:=(c4 % 25).toNat) (fun i σ H'=>∃ (vs:List V) (gs:List Ig) (o6:Option V),σ = [some (.ref a),some (.int (2 + c2 % 7)),some (.ref NL),some (.ref OL),some (.int ds),some (.ref G),o6,none,none,none,none,none,none,none,none,none,none,none,none,none]∧Same H2 H'∧H' G = some (.lst vs)∧All2 (IgAt H') vs gs∧gs.length = i∧GiOk nm.length gs∧∀ g ∈ gs,0 ≤ g.h∧g.h ≤ 2) ⟨[],[],none,rfl,s3,e3,.nil,rfl,fun g h=>by (cases h),fun g h=>by (cases h)⟩ ?_ ?_⟩
      · rintro i σ H4 hi ⟨vs,gs,o6,rfl,s4,e4,a4,l4,ok,h02⟩
        have n15:(0:Int) < 10 ^ Int.toNat 15:=by decide
        refine ⟨.inl ⟨rfl,_,SqL.of e4⟩,(s02.trans s4).seq hS,⟨by omega,by omega,hb⟩,fun c5 _=>⟨⟨by decide,by decide,by decide⟩,n15,⟨by show 2 ≤ 2 + c2 % 7; omega,ds1⟩,fun v g H5 s5 hg gi' gj' ne h0 h2=>?_⟩⟩
        have gi' : (g.i : Int) < 2 + c2 % 7 := gi'
        have gj' : (g.j : Int) < 2 + c2 % 7 := gj'
        have kt:Kt H5 (upd H5 G (.lst (vs ++ [v]))):=kt_upd (s5 _ _ e4)
        refine ⟨G,vs,_,rfl,rfl,s5 _ _ e4,?_,vs ++ [v],gs ++ [g],_,rfl,same_app' (s4.trans s5) hG0,upd_same,(a4.imp fun v g r=>ig_up v g _ _ ((kt_of s5).trans kt) r).snoc (ig_up _ _ _ _ kt hg),by rw [List.length_append,l4]; rfl,fun m hm=>?_,fun m hm=>?_⟩
        · rw [a4.len, l4]
          exact Nat.lt_of_lt_of_le (show i < 100 by omega) (by decide)
        · rcases List.mem_append.mp hm with h | h
          · exact ok m h
          · rw [List.mem_singleton.mp h]
            exact ⟨by omega, by omega, ne⟩
        · rcases List.mem_append.mp hm with h | h
          · exact h02 m h
          · rw [List.mem_singleton.mp h]
            exact ⟨h0, h2⟩
      rintro σ H4 ⟨vs, gs, o6, rfl, s4, e4, a4, l4, ok, h02⟩
      have s04 := s02.trans s4
      refine ⟨_,rfl,by decide,by decide,comp_rngR (n:=4) (fun _ y=>∃ c:Int,y = .int c∧0 ≤ c∧c ≤ 1000000) (fun _ _ _ _ h=>h) (by decide) ?_ ?_⟩
      · intro j H5 hj s5 P hP
        exact ⟨rfl,(s04.trans s5).seq hS,⟨by omega,by omega,hb⟩,fun c _ n H6 n0 n1 s6=>hP _ H6 s6 ⟨n,rfl,n0,n1⟩⟩
      intro C H5 ys s5 _ e5 l5 r5
      obtain ⟨st,fi,one,two,rfl,st1,fi1,on1,tw1⟩:=ints4 l5 r5
      refine ⟨(s04.trans s5).seq hS,⟨by decide,by decide,hb⟩,fun c6 _=>⟨(by show (0:Int) < 4; decide),_,.int st,SqL.of e5,rfl,_,.int fi,SqL.of e5,rfl,_,.int one,SqL.of e5,rfl,_,.int two,SqL.of e5,rfl,fun T H6 s6 e6=>?_⟩⟩
      have so0:=Int.emod_nonneg c6 (show (4:Int) ≠ 0 by decide)
      have so1:=Int.emod_lt_of_pos c6 (show (0:Int) < 4 by decide)
      have e6:H6 T = some (.tup [.int (c6 % 4),.int st,.int fi,.int one,.int two]):=e6
      generalize c6 % 4 = so at e6 so0 so1
      have b:Nb st one two:=⟨st1.1,st1.2,on1.1,by omega,tw1.1,by omega⟩
      have bf:Bd 40 fi:=bd_of (b:=1000001) (by omega) (by omega) (bd_lit rfl)
      have s06 := s04.trans (s5.trans s6)
      refine ⟨_,e6,_,e6,s06.seq hS,⟨by decide,by decide,hb⟩,fun c7 _=>fun fi' H7 f0 f1 s7=>⟨_,s7 _ _ e6,_,s7 _ _ e6,fun U H8 s8 e8=>?_⟩⟩
      have f1 : fi' ≤ 1000000 := f1
      have bf':Bd 40 fi':=bd_of (b:=1000001) (by omega) (by omega) (bd_lit rfl)
      have e8:H8 U = some (.tup [.int so,.int st,.int fi',.int one,.int two]):=e8
      have s68 := s7.trans s8
      have s08 := s06.trans s68
      refine ⟨⟨s08.seq hS,hb⟩,fun R rows H9 s9 _ t9 good=>?_⟩
      obtain ⟨rvs, e9, ar⟩ := t9
      have tb := good_tb good
      have s69 := s68.trans s9
      have s49 := s5.trans (s6.trans s69)
      have s09 := s04.trans s49
      have eT9 := s69 _ _ e6
      have eU9 := s9 _ _ e8
      have eG9 := s49 _ _ e4
      have aG9:All2 (IgAt H9) vs gs:=a4.imp fun v g r=>ig_up v g _ _ (kt_of s49) r
      have eN9 := (s4.trans s49) _ _ e2
      have eO9 := (s4.trans s49) _ _ e2'
      have l24 : gs.length ≤ 24 := by omega
      have gl : vs.length = gs.length := a4.len
      clear s5 s6 s7 s8 s9 s68 s69 s49 s08 s06 s04 e6 e8 e4 a4 e5 r5 l5 e2 e2' s4 x0 x1 s02 s2 s01 e1 e1' s1 s1'
      have okO:∀ {g:Ig},g.i < nm.length→g.i < oth.length:=fun h=>by omega
      refine ⟨G,rfl,⟨_,SqL.of eG9⟩,comp_abs IgAt ig_up (fun H g y=>GmAt H y (nmd nm g)) (fun g y H H' kt h=>gm_up y _ H H' kt h) (by omega) (SqL.of eG9) aG9 ?_ ?_⟩
      · intro v g H5 hv hg s5 P hP
        obtain ⟨p, rfl, hp⟩ := hv
        obtain ⟨o1, o2, _⟩ := ok g hg
        exact ⟨rfl,g,nm,⟨hp,s5 _ _ eN9,o1,o2⟩,fun v' H6 s6 h6=>hP _ _ s6 h6⟩
      intro E1 H10 us s10 _ e10 a10
      have aE10:All2 (GmAt H10) us (gs.map (nmd nm)):=all2_maps a10
      clear a10
      refine ⟨by decide, fun W hW => ?_⟩
      have s11:Same H10 (upd H10 W (.lst [])):=same_upd hW
      have e11:upd H10 W (.lst []) W = some (.lst []):=upd_same
      generalize upd H10 W (.lst []) = H11 at s11 e11
      have s911 := s10.trans s11
      have hW9 : H9 W = none := none_back s10 hW
      refine ⟨gs,vs,⟨(s09.trans s911).seq hS,hb,s911 _ _ eG9,aG9.imp fun v g r=>ig_up v g _ _ (kt_of s911) r,l24⟩,fun Y ys H12 s12 nY eY pm pw=>?_⟩
      have lY : ys.length = gs.length := by
        have := pm.length_eq
        rwa [List.length_range] at this
      have lYm:(ys.map (vx vs)).length = ys.length:=List.length_map _
      have nYW:Y ≠ W:=fun z=>by rw [z,e11] at nY; cases nY
      have s1012 := s11.trans s12
      have inR:∀ {i:Nat},i < ys.length→yx ys i < gs.length:=fun {i} h=>by
        rw [← yx_at h]
        exact List.mem_range.mp (pm.mem_iff.mp (List.getElem_mem h))
      obtain ⟨la,hla⟩:∃ la,la = cv47 ns 43 % 5000:=⟨_,rfl⟩
      refine ⟨⟨_,SqL.of eY⟩,for_enum (K:=K) (a:=Y) (xs:=ys.map (vx vs)) (fun i σ H'=>∃ (ws:List V) (gs':List Ig) (o6 o13 o14:Option V),σ = [some (.ref a),some (.int (2 + c2 % 7)),some (.ref NL),some (.ref OL),some (.int ds),some (.ref G),o6,some (.ref C),some (.ref T),some (.ref U),some (.ref R),some (.ref E1),some (.ref W),o13,o14,none,none,none,none,none]∧Same H10 H'∧H' Y = some (.lst (ys.map (vx vs)))∧H' W = some (.lst ws)∧All2 (GmAt H') ws (gs'.map (nmd oth))∧gs'.length = i∧∀ t,t < i→Twi la (gi gs (yx ys t)) (gi gs' t)) ⟨[],[],_,none,none,rfl,s1012,eY,s12 _ _ e11,.nil,rfl,fun t h=>absurd h (Nat.not_lt_zero _)⟩ (fun i σ H' ⟨_,_,_,_,_,_,_,e,_⟩=>SqL.of e) ?_ ?_⟩
      · intro i x t σ H4 hx ht ⟨ws,gs',o6,o13,o14,hσ,s4,eY4,eW4,aW4,l4,tw4⟩
        subst hσ
        have il : i < ys.length := by
          have := (List.getElem?_eq_some_iff.mp hx).1
          rwa [lYm] at this
        have ex : x = vx vs (yx ys i) := by
          rw [List.getElem?_map,List.getElem?_eq_getElem il,yx_at il] at hx
          exact (Option.some.inj hx).symm
        subst ex
        have s5:Same H4 (upd H4 t (.tup [.int ((i:Nat):Int),vx vs (yx ys i)])):=same_upd ht
        have e5:upd H4 t (.tup [.int ((i:Nat):Int),vx vs (yx ys i)]) t = some (.tup [.int ((i:Nat):Int),vx vs (yx ys i)]):=upd_same
        generalize upd H4 t (.tup [.int ((i:Nat):Int),vx vs (yx ys i)]) = H5 at s5 e5
        have s105 := s4.trans s5
        have s95 := s10.trans s105
        obtain ⟨p,ep,hp⟩:=vx_at (aG9.imp fun v g r=>ig_up v g _ _ (kt_of s95) r) (inR il)
        rw [ep] at e5
        have bi:Bd 4000 (1 + ((i:Nat):Int)):=bd_of (b:=100) (by omega) (by omega) (bd_lit rfl)
        have z0:=Int.emod_nonneg ((i:Nat):Int) (show (5:Int) ≠ 0 by decide)
        have z1:=Int.emod_lt_of_pos ((i:Nat):Int) (show (0:Int) < 5 by decide)
        have hS5 := (s09.trans s95).seq hS
        refine ⟨t,_,rfl,SqT.of e5,rfl,_,_,rfl,_,_,rfl,rfl,(by show (0:Int) < 5; decide),hS5,⟨by show 0 ≤ 45 + ((i:Nat):Int) % 5; omega,by show 45 + ((i:Nat):Int) % 5 < 1000; omega,hb⟩,fun c5 _=>⟨⟨by show 0 < 1 + ((i:Nat):Int); omega,bi⟩,hS5,⟨by decide,by decide,hb⟩,fun c6 hc6=>⟨(by show (0:Int) < 5000; decide),_,hp,fun v g' H6 s6 hg' tw=>?_⟩⟩⟩
        obtain ⟨pv, rfl, hpv⟩ := hg'
        rw [hc6, ← hla] at tw
        have eW6 := s6 _ _ (s5 _ _ eW4)
        obtain ⟨o1, o2, o3⟩ := ok _ (gi_mem (inR il))
        have ok':g'.i < oth.length∧g'.j < oth.length:=by
          obtain ⟨_, ⟨h1, h2, _⟩ | ⟨h1, h2, _⟩⟩ := tw
          · rw [h1, h2]
            omega
          · rw [h1, h2]
            omega
        refine ⟨.inl ⟨rfl,_,SqL.of eW6⟩,g',oth,⟨hpv,(s95.trans s6) _ _ eO9,ok'.1,ok'.2⟩,fun v7 H7 s7 h7=>?_⟩
        have eW7 := s7 _ _ eW6
        have kt:Kt H7 (upd H7 W (.lst (ws ++ [v7]))):=kt_upd eW7
        have s47 := s5.trans (s6.trans s7)
        refine ⟨W,ws,_,rfl,rfl,eW7,?_,ws ++ [v7],gs' ++ [g'],_,_,_,rfl,same_app' (s4.trans s47) hW,by rw [upd_ne nYW]; exact s47 _ _ eY4,upd_same,?_,by rw [List.length_append,l4]; rfl,fun t ht=>?_⟩
        · rw [aW4.len, List.length_map, l4]
          exact Nat.lt_of_lt_of_le (show i < 100 by omega) (by decide)
        · rw [List.map_append]
          exact (aW4.imp fun v g r=>gm_up v g _ _ ((kt_of s47).trans kt) r).snoc (gm_up _ _ _ _ kt h7)
        · by_cases c : t < i
          · have : gi (gs' ++ [g']) t = gi gs' t := by
              unfold gi
              rw [List.getD_eq_getElem?_getD,List.getD_eq_getElem?_getD,List.getElem?_append_left (by omega)]
            rw [this]
            exact tw4 t c
          · have e : t = i := by omega
            subst e
            have : gi (gs' ++ [g']) t = g' := by
              unfold gi
              rw [List.getD_eq_getElem?_getD,List.getElem?_append_right (by omega),l4,Nat.sub_self]
              rfl
            rw [this]
            exact tw
      rintro σ H13 ⟨ws,gs',o6,o13,o14,rfl,s13,_,eW,aW,l13,tw13⟩
      rw [lYm] at l13 tw13
      have otw:Otw la gs gs' ys:=⟨pm,pw,by rw [l13,lY],fun t ht=>tw13 t (by rw [lY]; exact ht)⟩
      have ok' : GiOk oth.length gs' := ln ▸ otw.ok ok
      have s913 := s10.trans s13
      have eE13 := s13 _ _ e10
      have aE13:=aE10.imp fun v g r=>gm_up v g _ _ (kt_of s13) r
      clear s12 s11 s911 e11 nY eY s1012 e10 aE10 s10 nYW tw13 hla hW
      have eR13 := s913 _ _ e9
      have aR13:=ar.imp fun v g r=>ro_up v g _ _ (kt_of s913) r
      refine ⟨so,st,fi,one,two,rows,rvs,⟨s913 _ _ eT9,so0,by omega,eR13,aR13,good⟩,fun v14 H14 s14 rl=>?_⟩
      obtain ⟨r1,Cc,dx,fs,Tb',rfl,er14,kn,fd,⟨tv,t91,t92⟩,_⟩:=rl
      have hR:RlAt K H14 r1 so st fi one two rows:=⟨Cc,dx,fs,Tb',er14,kn,fd,tv,SqL.of t91,t92⟩
      have tk14 := tk0.up (s09.trans (s913.trans s14))
      obtain ⟨ps, tt, _⟩ := id tk14
      have lm:∀ (l:List Ig) (n:List Str),(l.map (nmd n)).length = l.length:=fun l n=>List.length_map _
      have h02':∀ g ∈ gs',0 ≤ g.h∧g.h ≤ 2:=fun g hg=>by
        obtain ⟨t, ht, rfl⟩ := List.getElem_of_mem hg
        have ht1:t < gs.length:=by rw [← otw.ln]; exact ht
        have e : gs'[t] = gi gs' t := by
          have := gi_get ht
          rw [List.getElem?_eq_getElem ht] at this
          exact Option.some.inj this
        rw [e]
        obtain ⟨z0, z1⟩ := h02 _ (gi_mem (otw.lt ht1))
        obtain ⟨_, ⟨_, _, h⟩ | ⟨_, _, h⟩⟩ := otw.tw t ht1
        · rw [h]
          exact ⟨z0, z1⟩
        · rw [h]
          omega
      have gok:∀ {n:List Str} {l:List Ig},n.Nodup→GiOk n.length l→(∀ g ∈ l,0 ≤ g.h∧g.h ≤ 2)→∀ g ∈ l.map (nmd n),(0 ≤ g.h∧g.h ≤ 2)∧g.a ≠ g.b:=fun {n l} nd ol h2 g hg=>by
        obtain ⟨x, hx, rfl⟩ := List.mem_map.mp hg
        obtain ⟨o1, o2, o3⟩ := ol x hx
        exact ⟨h2 x hx, fun z => o3 (nx_inj nd o1 o2 z)⟩
      refine ⟨so,st,fi,one,two,rows,gs.map (nmd nm),us,⟨off_rl tt hR,tb,b,bf,SqL.of (off_at tt (s14 _ _ eE13) fun _=>nofun),aE13.imp fun v g r=>gm_up v g _ _ ((kt_of s14).trans (off_kt tt)) r,by rw [lm]; omega,gok nd ok h02,tk14⟩,fun F fv p H15 sm15 nF eF tk15 stb aF=>?_⟩
      obtain ⟨kl15, kt15⟩ := smt_lst sm15 tk14
      have sm915:SmT (T12 K) H9 H15:=fun b o n e=>sm15 b o n (s14 b o (s913 b o e))
      have tk9 := tk0.up s09
      obtain ⟨kl9, kt9⟩ := smt_lst sm915 tk9
      refine ⟨so,st,fi',one,two,rows,rvs,⟨kt9 _ _ eU9,so0,by omega,kl9 _ _ e9,ar.imp fun v g r=>ro_up v g _ _ kt9 r,good⟩,fun v16 H16 s16 rl=>?_⟩
      obtain ⟨r2,Cc2,dx2,fs2,Tb2,rfl,er16,kn2,fd2,⟨tv2,t93,t94⟩,_⟩:=rl
      have hR2:RlAt K H16 r2 so st fi' one two rows:=⟨Cc2,dx2,fs2,Tb2,er16,kn2,fd2,tv2,SqL.of t93,t94⟩
      have tk16 := tk15.up s16
      obtain ⟨ps16, tt16, _⟩ := id tk16
      have eW16 := s16 _ _ (kl15 _ _ (s14 _ _ eW))
      have aW16:=aW.imp fun v g r=>gm_up v g _ _ ((kt_of s14).trans (kt15.trans (kt_of s16))) r
      refine ⟨so,st,fi',one,two,rows,gs'.map (nmd oth),ws,⟨off_rl tt16 hR2,tb,b,bf',SqL.of (off_at tt16 eW16 fun _=>nofun),aW16.imp fun v g r=>gm_up v g _ _ (off_kt tt16) r,by rw [lm,otw.ln]; omega,gok nd' ok' h02',tk16⟩,fun F2 fv2 q H17 sm17 nF2 eF2 tk17 stb2 aF2=>?_⟩
      obtain ⟨kl17, kt17⟩ := smt_lst sm17 tk16
      have ndP:∀ l:List Gm,(plr l).Nodup:=fun l=>inc_nodup (inc_srt _)
      have plN:∀ {n:List Str} {l:List Ig},n.Nodup→n.length ≤ 8→GiOk n.length l→(plr (l.map (nmd n))).length ≤ 8:=fun {n l} nd n8 ol=>by
        rw [(plr_ix nd ol).length_eq, List.length_map]
        have:=List.length_filter_le (plays l) (List.range n.length)
        rw [List.length_range] at this
        omega
      have n8 : nm.length ≤ 8 := by omega
      have pl1 := plN nd n8 ok
      have pl2 := plN nd' (by omega) ok'
      obtain ⟨kvA, w1, w2, w3⟩ := nq_pairs aF2
      have lkA:kvA.length = (plr (gs'.map (nmd oth))).length:=by
        have := congrArg List.length w2
        rwa [List.length_map, List.length_map] at this
      refine ⟨fv2,kvA,SqL.of eF2,w1,by rw [w2]; exact List.pairwise_map.mpr ((ndP _).imp fun h z=>h (Sum.inr.inj z)),by omega,fun DA hDA=>?_⟩
      have s18:Same H17 (upd H17 DA (.dK kvA)):=same_upd hDA
      have e18:upd H17 DA (.dK kvA) DA = some (.dK kvA):=upd_same
      generalize upd H17 DA (.dK kvA) = H18 at s18 e18
      have sm918:SmT (T12 K) H9 H18:=fun b o n e=>s18 b o (sm17 b o n (s16 b o (sm915 b o n e)))
      obtain ⟨kl, kt⟩ := smt_lst sm918 tk9
      have tk18 := tk17.up s18
      have eF18 := s18 _ _ (kl17 _ _ (s16 _ _ eF))
      have aF18:=aF.imp fun v g r=>nq_up v g _ _ ((kt_of s16).trans (kt17.trans (kt_of s18))) r
      have lF:fv.length = (plr (gs.map (nmd nm))).length:=by rw [aF.len,List.length_map]
      have w3 := fun x hx => w3 (ndP _) x hx
      have tl := told_len nd nd' ln ok otw
      have eN18 := kl _ _ eN9
      have eO18 := kl _ _ eO9
      have eT18 := kt _ _ eT9
      have eU18 := kt _ _ eU9
      refine ⟨DA,kvA,rfl,e18,_,.inl (SqL.of eF18),⟨fun h=>?_,fun _=>?_⟩⟩
      · have h:¬ ((kvA.length:Int) = (fv.length:Int)):=by simpa using h
        exact absurd (by rw [lkA, lF, tl]) h
      refine ⟨F,rfl,⟨_,SqL.of eF18⟩,for_list (K:=K) (a:=F) (xs:=fv) (fun i σ H'=>∃ o17 o18 o19:Option V,σ = [some (.ref a),some (.int (2 + c2 % 7)),some (.ref NL),some (.ref OL),some (.int ds),some (.ref G),o6,some (.ref C),some (.ref T),some (.ref U),some (.ref R),some (.ref E1),some (.ref W),o13,o14,some (.ref F),some (.ref DA),o17,o18,o19]∧Same H18 H') ⟨none,none,none,rfl,Same.refl _⟩ (fun i σ H' _ ⟨_,_,_,_,s⟩=>SqL.of (s _ _ eF18)) ?_ ?_⟩
      · rintro i v σ H19 hv ⟨o17, o18, o19, rfl, s19⟩
        obtain ⟨x,hx,t,pw',rfl,q0,q1⟩:=nq_map aF18 hv
        have xm := List.mem_of_getElem? hx
        obtain ⟨kk, hk, pk, rfl⟩ := plr_nx nd ok xm
        obtain ⟨i1, i2, i3⟩ := ix_name nd hk
        obtain ⟨lo',rv'⟩:=told_sim (so:=so) (fi:=fi) (fi':=fi') good b nd nd' ln ok otw stb stb2 hk
        have lo:Lo (wq fi (wst so st fi one two rows (fun _=>none) (pg (gs.map (nmd nm)) p) (nx nm kk))):=lo_wst (fi:=fi) (w:=fun _=>none) tb (fun _=>lo_int fi) _
        have wb:=wst_wb (so:=so) tb b bf (gs:=pg (gs.map (nmd nm)) p) (fun g hg=>(gok nd ok h02 g (pg_mem hg)).1) (w:=fun _=>none) (i:=0) (fun _=>⟨(by decide:(0:Int) < 1),bf.mono (by decide),bd_lit rfl⟩) (nx nm kk)
        have lp : (pg (gs.map (nmd nm)) p).length ≤ 31 := by
          have:(pg (gs.map (nmd nm)) p).length ≤ p.length:=List.length_filterMap_le ..
          have := stb.1
          rw [lm] at this
          omega
        have wb := wb.mono (show _ ≤ 31 by omega)
        have ed := due_low lo lo' rv'
        have hk' : kk < oth.length := by omega
        have mo:nx oth kk ∈ plr (gs'.map (nmd oth)):=nx_plr nd' ok' hk' (by rw [otw.plays]; exact pk)
        obtain ⟨q2, z2, t2⟩ := w3 _ mo
        rw [ed] at t2
        generalize wq fi (wst so st fi one two rows (fun _=>none) (pg (gs.map (nmd nm)) p) (nx nm kk)) = y at q1 lo wb t2
        have by2 : Bd 4000 y.2 := wb.bb.mono (by decide)
        have bdf:Bd 60 (fi' - fi):=(Bd.sub bf' bf).mono (by decide)
        have q0' := s19 _ _ q0
        have q1' := s19 _ _ q1
        refine ⟨t,_,rfl,SqT.of q0',rfl,_,_,rfl,_,_,rfl,rfl,_,q1',_,s19 _ _ eU18,_,s19 _ _ eT18,_,q1',cok (show Bd 4000 (fi' - fi) from bdf.mono (by decide)) by2 (by decide) (by decide),_,q1',⟨lo.pos,by2⟩,fun pd H20 s20 e20=>?_⟩
        have s1820 := s19.trans s20
        have gA:DGet H20 DA (.str (nx oth kk)) (valV kvA (Sum.inr (nx oth kk))):=.inl ⟨_,Sum.inr _,.inl (s1820 _ _ e18),rfl,rfl⟩
        rw [z2] at gA
        refine ⟨DA,rfl,.inl ⟨_,.inl (s1820 _ _ e18)⟩,.inl ⟨rfl,_,SqL.of (s1820 _ _ eN18)⟩,_,kk,_,SqL.of (s1820 _ _ eN18),rfl,flat_strs' nm,i1,i2,i3,_,_,SqL.of (s1820 _ _ eO18),nx_at hk',_,gA,_,_,.tup (SqT.of (s1820 _ _ (s18 _ _ t2))) (.cons (.int _) (.cons (.int _) .nil)),.tup (SqT.of e20) (.cons (.int _) (.cons (.int _) .nil)),rfl,rfl,?_⟩
        rw [eqv_shaped rfl]
        exact ⟨fun h=>nb h,fun _=>⟨_,_,_,rfl,s1820⟩⟩
      · rintro σ H19 ⟨o17, o18, o19, rfl, s19⟩
        have sm919:SmT (T12 K) H9 H19:=fun b o n e=>s19 b o (sm918 b o n e)
        obtain ⟨kl, kt⟩ := smt_lst sm919 tk9
        have tk19 := tk18.up s19
        refine ⟨so,st,fi,one,two,rows,rvs,⟨kt _ _ eT9,so0,by omega,kl _ _ e9,ar.imp fun v g r=>ro_up v g _ _ kt r,good⟩,fun v20 H20 s20 rl=>?_⟩
        obtain ⟨r3,Cc3,dx3,fs3,Tb3,rfl,er20,kn3,fd3,⟨tv3,t95,t96⟩,_⟩:=rl
        have hR3:RlAt K H20 r3 so st fi one two rows:=⟨Cc3,dx3,fs3,Tb3,er20,kn3,fd3,tv3,SqL.of t95,t96⟩
        have tk20 := tk19.up s20
        obtain ⟨ps20, tt20, _⟩ := id tk20
        refine ⟨?hS,⟨by decide,by decide,hb⟩,fun c9 _=>⟨by show 0 < ds; omega,so,st,fi,one,two,rows,gs,vs,nm,⟨off_rl tt20 hR3,tb,b,bf,⟨s20 _ _ (kl _ _ eG9),aG9.imp fun v g r=>ig_up v g _ _ (kt.trans (kt_of s20)) r,l24,ok,h02⟩,⟨s20 _ _ (kl _ _ eN9),n8,nd⟩,tk20⟩,fun H21 _ _=>k H21⟩⟩
        exact s20.seq (smt_seq sm919 tk9 (s09.seq hS))
end
theorem lenE1:∀ us:List Value,us.length = 1→∃ y0:Value,us = [y0]
  | [y0], _ => ⟨_, rfl⟩
theorem lenE2:∀ us:List Value,us.length = 2→∃ y0 y1:Value,us = [y0,y1]
  | [y0, y1], _ => ⟨_, _, rfl⟩
theorem lenE3:∀ us:List Value,us.length = 3→∃ y0 y1 y2:Value,us = [y0,y1,y2]
  | [y0, y1, y2], _ => ⟨_, _, _, rfl⟩
theorem lenE4:∀ us:List Value,us.length = 4→∃ y0 y1 y2 y3:Value,us = [y0,y1,y2,y3]
  | [y0, y1, y2, y3], _ => ⟨_, _, _, _, rfl⟩
theorem lenE5:∀ us:List Value,us.length = 5→∃ y0 y1 y2 y3 y4:Value,us = [y0,y1,y2,y3,y4]
  | [y0, y1, y2, y3, y4], _ => ⟨_, _, _, _, _, rfl⟩
theorem lenE6:∀ us:List Value,us.length = 6→∃ y0 y1 y2 y3 y4 y5:Value,us = [y0,y1,y2,y3,y4,y5]
  | [y0, y1, y2, y3, y4, y5], _ => ⟨_, _, _, _, _, _, rfl⟩
theorem dmk {K:PySem.W.Frag} {h:Heap} {mg:Str→Option Value} {x:Str} {st:Stmt} {ps:List Str} {f:Addr} {od an:Option Addr} {sl:Array (Option Value)} {oc kV dc pm cd ct:Value} (X:K.In h) (G:h.Ns mainGlobals mg) (a:PySem.W.nsIn K mainGlobals x = some (some (.ref f))) (l:K.lookup f = some ⟨oc,od,.func (PySem.W.fnOf x x (defArgs st) (defBody st) (defScope st) .none kV dc pm an cd ct),sl⟩) (e:PySem.W.codeIn K cd x = true) (k:PySem.W.keepIn K (.ref f) = true) (hb:∀ (kV doc pm:Value) (an:Option Addr) (cdv ct:Value) (us:List Value),us.length = ps.length→bindArgs (PySem.W.fnOf x x (defArgs st) (defBody st) (defScope st) .none kV doc pm an cdv ct) ⟨us,[]⟩ = pure (ps.zip us)):Dfn K mg x st ps:=⟨⟨_,_,fun_mk l e k,PySem.W.mg_of X G a,(fun_mk l e k).binds hb⟩⟩
theorem mmk {K:PySem.W.Frag} {x q:Str} {Cs Ds:List Addr} {st:Stmt} {ps:List Str} {f:Addr} {od an:Option Addr} {sl:Array (Option Value)} {oc kV dc pm cd ct:Value} (A:∀ C ∈ Cs,Meth K C x f) (B:∀ C ∈ Ds,PySem.W.findCls K (.ref C) (.type "type") x = some (.val (.ref f))) (l:K.lookup f = some ⟨oc,od,.func (PySem.W.fnOf x q (defArgs st) (defBody st) (defScope st) .none kV dc pm an cd ct),sl⟩) (e:PySem.W.codeIn K cd q = true) (k:PySem.W.keepIn K (.ref f) = true) (hb:∀ (kV doc pm:Value) (an:Option Addr) (cdv ct:Value) (us:List Value),us.length = ps.length→bindArgs (PySem.W.fnOf x q (defArgs st) (defBody st) (defScope st) .none kV doc pm an cdv ct) ⟨us,[]⟩ = pure (ps.zip us)):DfnM K Cs Ds x q st ps:=⟨⟨_,_,fun_mk l e k,A,B,(fun_mk l e k).binds hb⟩⟩
theorem tup_mk {K:PySem.W.Frag} {a:Addr} {xs:List V} {us:Array Value} {n:Nat} {sl:Array (Option Value)} (p:K.lookup a = some ⟨.type "tuple",none,.seq us n,sl⟩) (h:us.size ≤ sizeLine) (q:Vals xs us.toList):TupD K a xs:=⟨fun H=>.inr ⟨_,_,_,p,rfl,rfl,h,q⟩,⟨_,p,rfl,rfl⟩⟩
theorem all_mk {l:PySem.W.OpenLaw} {w:World} {K:PySem.W.Frag} {h:Heap} {mg:Str→Option Value} {fa:Addr} {f7:Addr} {od7 an7:Option Addr} {sl7:Array (Option Value)} {oc7 kV7 dc7 pm7 ct7:Value} {f42:Addr} {od42 an42:Option Addr} {sl42:Array (Option Value)} {oc42 kV42 dc42 pm42 cd42 ct42:Value} {ts:List Addr} {cc tP:Addr} {vsC:Array Value} {clC:Value} {cdC:Option Addr} {slC:Array (Option Value)} {c_Capped c_Early c_NoTable c_Rested c_Rule:Addr} {a_FIRST_ROW:Addr} {b_FIRST_ROW_1:Addr} (X:K.In h) (G:h.Ns mainGlobals mg) (hfa:mg "law" = some (.ref fa)) (d_is_whole:Dfn K mg "is_whole" s_is_whole ["thing"]) (d_fraction:Dfn K mg "fraction" s_fraction ["top","bottom"]) (d_greatest_divisor:Dfn K mg "greatest_divisor" s_greatest_divisor ["one","other"]) (d_plus:Dfn K mg "plus" s_plus ["one","other"]) (d_minus:Dfn K mg "minus" s_minus ["one","other"]) (d_under:Dfn K mg "under" s_under ["one","other"]) (d_is_between:Dfn K mg "is_between" s_is_between ["thing","least","most"]) (a7:PySem.W.nsIn K mainGlobals "in_order" = some (some (.ref f7))) (l7:K.lookup f7 = some ⟨oc7,od7,.func (PySem.W.fnOf "in_order" "in_order" (defArgs s_in_order) (defBody s_in_order) (defScope s_in_order) .none kV7 dc7 pm7 an7 (.ref cc) ct7),sl7⟩) (e7:PySem.W.codeIn K (.ref cc) "in_order" = true) (k7:PySem.W.keepIn K (.ref f7) = true) (d_trail:Dfn K mg "trail" s_trail ["rule","games"]) (d_next_step:Dfn K mg "next_step" s_next_step ["rule","worths","days","played"]) (d_rest_behind:Dfn K mg "rest_behind" s_rest_behind ["days","day"]) (d_move:Dfn K mg "move" s_move ["worths","step"]) (d_running:Dfn K mg "running" s_running ["rule","games"]) (d_table_of:Dfn K mg "table_of" s_table_of ["rows"]) (d_is_row:Dfn K mg "is_row" s_is_row ["thing"]) (d_is_pair:Dfn K mg "is_pair" s_is_pair ["thing"]) (d_is_share:Dfn K mg "is_share" s_is_share ["thing"]) (d_goes_on:Dfn K mg "goes_on" s_goes_on ["row","later"]) (d_share_by:Dfn K mg "share_by" s_share_by ["table","difference"]) (d_Rule___init__:DfnM K [c_Rule] [c_Rule] "__init__" "Rule.__init__" s_Rule___init__ ["self","step","first","table"]) (d_Rule_size:DfnM K [c_Rule,c_Capped] [] "size" "Rule.size" s_Rule_size ["self","played","rest"]) (d_Rule_bit:DfnM K [c_Rule,c_Early,c_Rested] [] "bit" "Rule.bit" s_Rule_bit ["self","difference","halves","played","rest"]) (d_Early___init__:DfnM K [c_Early] [] "__init__" "Early.__init__" s_Early___init__ ["self","step","first","table","early","many"]) (d_Early_size:DfnM K [c_Early] [] "size" "Early.size" s_Early_size ["self","played","rest"]) (d_Rested___init__:DfnM K [c_Rested] [] "__init__" "Rested.__init__" s_Rested___init__ ["self","step","first","table","pause","times"]) (d_Rested_size:DfnM K [c_Rested] [] "size" "Rested.size" s_Rested_size ["self","played","rest"]) (d_Capped___init__:DfnM K [c_Capped] [] "__init__" "Capped.__init__" s_Capped___init__ ["self","step","first","table","cap"]) (d_Capped_bit:DfnM K [c_Capped] [] "bit" "Capped.bit" s_Capped_bit ["self","difference","halves","played","rest"]) (d_uncut_bit:Dfn K mg "uncut_bit" s_uncut_bit ["size","share","halves"]) (d_cut:Dfn K mg "cut" s_cut ["one","cap"]) (d_l_cell:Dfn K mg "_law_cell" s_l_cell ["_law_script","_law_k"]) (d_l_common:Dfn K mg "_law_common" s_l_common ["_law_one","_law_other"]) (d_l_low:Dfn K mg "_law_low" s_l_low ["_law_top","_law_bottom"]) (d_l_names:Dfn K mg "_law_names" s_l_names ["_law_cell_here","_law_many"]) (d_l_game:Dfn K mg "_law_game" s_l_game ["_law_cell_here","_law_many","_law_days"]) (d_l_number:Dfn K mg "_law_number" s_l_number ["_law_cell_here"]) (d_l_rows:Dfn K mg "_law_rows" s_l_rows ["_law_script"]) (d_l_rule:Dfn K mg "_law_rule" s_l_rule ["_law_drawn","_law_rows_here"]) (d_l_named:Dfn K mg "_law_named" s_l_named ["_law_played","_law_names_here"]) (d_l_otherwise:Dfn K mg "_law_otherwise" s_l_otherwise ["_law_played","_law_cell_here","_law_later"]) (d_l_shuffled:Dfn K mg "_law_shuffled" s_l_shuffled ["_law_script","_law_games"]) (d_l_parted:Dfn K mg "_law_parted" s_l_parted ["_law_rule_here","_law_games","_law_names_here","_law_day"]) (a42:PySem.W.nsIn K mainGlobals "law" = some (some (.ref f42))) (l42:K.lookup f42 = some ⟨oc42,od42,.func (PySem.W.fnOf "law" "law" (defArgs s_law) (defBody s_law) (defScope s_law) .none kV42 dc42 pm42 an42 cd42 ct42),sl42⟩) (e42:PySem.W.codeIn K cd42 "law" = true) (k42:PySem.W.keepIn K (.ref f42) = true) (t1:K.lookup cc = some ⟨clC,cdC,.fields vsC,slC⟩) (t2:(vsC[11]?:Option Value) = some (.ref tP)) (t3:PySem.W.codeHdIn K cc tP = true) (t4:K.lookup tP = none) (t8:tP ∈ ts) (er:Errs K mg c_Capped c_Early c_NoTable c_Rested c_Rule) (n_abs:mg "abs" = none) (n_all:mg "all" = none) (n_bool:mg "bool" = none) (n_dict:mg "dict" = none) (n_enumerate:mg "enumerate" = none) (n_int:mg "int" = none) (n_isinstance:mg "isinstance" = none) (n_len:mg "len" = none) (n_list:mg "list" = none) (n_max:mg "max" = none) (n_min:mg "min" = none) (n_range:mg "range" = none) (n_sorted:mg "sorted" = none) (n_tuple:mg "tuple" = none) (n_zip:mg "zip" = none) (v_FIRST_ROW:Cst mg "FIRST_ROW" (.ref a_FIRST_ROW)) (w_FIRST_ROW:TupD K a_FIRST_ROW [.int (0),.ref b_FIRST_ROW_1]) (w_FIRST_ROW_1:TupD K b_FIRST_ROW_1 [.int (1),.int (2)]) (v_LAST_FROM:Cst mg "LAST_FROM" (.int (1000000))) (v_MOST_PART:Cst mg "MOST_PART" (.int (9999))) (v_MOST_ROWS:Cst mg "MOST_ROWS" (.int (10))) :
    (∃ c P,PySem.W.tabIn K "in_order" = some (c,P)∧PySem.W.codeHdIn K c P = true∧K.lookup P = none∧P ∈ ts)∧∃ fd:FuncData,(∀ (s:Shared) (v:Value),BindsTo s fd ⟨[v],[]⟩ [("_law_script",v)])∧∀ base:Heap,K.In base→base.Ns mainGlobals mg→BmB mg base→FnOk l.prog w K mg base (CXE l.prog w) 12 fa fd ["_law_script"] (sp_lawABT "in_order" K):=by
  have F7 := fun_mk (st := s_in_order) l7 e7 k7
  have d_in_order:Dfn K mg "in_order" s_in_order ["games"]:=⟨⟨_,_,F7,PySem.W.mg_of X G a7,F7.binds fun _ _ _ _ _ _ us hl=>by obtain ⟨_,rfl⟩:=lenE1 us hl; rfl⟩⟩
  have F42 := fun_mk (st := s_law) l42 e42 k42
  have d_law:Dfn K mg "law" s_law ["_law_script"]:=⟨⟨_,_,F42,PySem.W.mg_of X G a42,F42.binds fun _ _ _ _ _ _ us hl=>by obtain ⟨_,rfl⟩:=lenE1 us hl; rfl⟩⟩
  have e := hfa.symm.trans (PySem.W.mg_of X G a42)
  cases e
  have tb := tab_in (x := "in_order") a7 l7 rfl t1 t2
  have tk:∀ base,BmB mg base→TabK K mg base "in_order":=fun base hbm=>⟨⟨_,_,_,_,_,cc,PySem.W.mg_of X G a7,l7,rfl,by rw [tabP_eq tb]; exact t3⟩,hbm⟩
  refine ⟨⟨_, _, tb, t3, t4, t8⟩, ?_⟩
  refine ⟨PySem.W.fnOf "law" "law" (defArgs s_law) (defBody s_law) (defScope s_law) .none kV42 dc42 pm42 an42 cd42 ct42,fun s v=>.of_eq rfl,fun base _ _ hbm=>law_fnBT F42 (PySem.W.mg_of X G a42) fun ns=>?_⟩
  have c_is_whole:=ok_is_whole (P:=l.prog) (w:=w) (base:=base) (ns:=ns) d_is_whole er n_isinstance n_bool n_int
  have c_greatest_divisor:=ok_greatest_divisor (P:=l.prog) (w:=w) (base:=base) (ns:=ns) d_greatest_divisor er n_abs
  have c_under:=ok_under (P:=l.prog) (w:=w) (base:=base) (ns:=ns) d_under er
  have c_rest_behind:=ok_rest_behind (P:=l.prog) (w:=w) (base:=base) (ns:=ns) d_rest_behind er
  have c_is_pair:=ok_is_pair (P:=l.prog) (w:=w) (base:=base) (ns:=ns) d_is_pair er n_len n_isinstance n_tuple
  have c_Rule_size:=ok_Rule_size (P:=l.prog) (w:=w) (base:=base) (ns:=ns) d_Rule_size er
  have c_Early_size:=ok_Early_size (P:=l.prog) (w:=w) (base:=base) (ns:=ns) d_Early_size er
  have c_Rested_size:=ok_Rested_size (P:=l.prog) (w:=w) (base:=base) (ns:=ns) d_Rested_size er
  have c_l_cell:=ok_l_cell (P:=l.prog) (w:=w) (base:=base) (ns:=ns) d_l_cell er n_len
  have c_l_common:=ok_l_common (P:=l.prog) (w:=w) (base:=base) (ns:=ns) d_l_common er n_abs
  have c_l_names:=ok_l_names (P:=l.prog) (w:=w) (base:=base) (ns:=ns) d_l_names er n_range
  have c_l_game:=ok_l_game (P:=l.prog) (w:=w) (base:=base) (ns:=ns) d_l_game er
  have c_l_number:=ok_l_number (P:=l.prog) (w:=w) (base:=base) (ns:=ns) d_l_number er
  have c_l_named:=ok_l_named (P:=l.prog) (w:=w) (base:=base) (ns:=ns) d_l_named er
  have c_l_otherwise:=ok_l_otherwise (P:=l.prog) (w:=w) (base:=base) (ns:=ns) d_l_otherwise er
  have c_fraction:=ok_fraction d_fraction er c_greatest_divisor c_is_whole
  have c_is_between:=ok_is_between d_is_between er c_is_whole
  have c_goes_on := ok_goes_on d_goes_on er c_under
  have c_cut := ok_cut d_cut er c_under
  have c_l_low := ok_l_low d_l_low er c_l_common
  have c_l_shuffled:=ok_l_shuffled d_l_shuffled er n_len n_list c_l_cell
  have c_plus := ok_plus d_plus er c_fraction
  have c_minus := ok_minus d_minus er c_fraction
  have c_in_order:=ok_in_order (P:=l.prog) (w:=w) (base:=base) (ns:=ns) d_in_order (tk base hbm) er n_sorted
  have c_is_share:=ok_is_share d_is_share er v_MOST_PART c_fraction c_is_between c_is_pair
  have c_uncut_bit := ok_uncut_bit d_uncut_bit er c_fraction
  have c_l_rows:=ok_l_rows d_l_rows er n_range c_l_cell c_l_low
  have c_move := ok_move d_move er c_minus c_plus
  have c_is_row:=ok_is_row d_is_row er v_LAST_FROM c_is_share c_is_between c_is_pair
  have c_table_of:=ok_table_of d_table_of er n_list n_all n_zip n_len n_isinstance v_FIRST_ROW w_FIRST_ROW w_FIRST_ROW_1 v_MOST_ROWS c_goes_on c_is_row
  have c_share_by:=ok_share_by d_share_by er c_under c_minus
  have c_Rule___init__:=ok_Rule___init__ d_Rule___init__ er c_table_of
  have c_Rule_bit:=ok_Rule_bit d_Rule_bit er c_uncut_bit c_share_by c_Rule_size c_Rested_size c_Early_size
  have c_Early___init__:=ok_Early___init__ d_Early___init__ er c_Rule___init__
  have c_Rested___init__:=ok_Rested___init__ d_Rested___init__ er c_Rule___init__
  have c_Capped___init__:=ok_Capped___init__ d_Capped___init__ er c_Rule___init__
  have c_Capped_bit:=ok_Capped_bit d_Capped_bit er c_cut c_uncut_bit c_share_by c_Rule_size c_Rested_size c_Early_size
  have c_next_step:=ok_next_step d_next_step er n_max n_min n_len c_Capped_bit c_Rule_bit c_minus c_rest_behind
  have c_trail:=ok_trail d_trail er c_in_order c_move c_next_step
  have c_l_rule:=ok_l_rule d_l_rule er c_Capped___init__ c_Rested___init__ c_Early___init__ c_Rule___init__
  have c_running:=ok_running d_running er n_sorted c_trail c_move
  have c_l_parted:=ok_l_parted d_l_parted er n_dict c_running c_l_named
  exact ok_law d_law er n_len n_dict n_enumerate n_range c_l_parted c_l_cell c_l_rule c_l_low c_running c_l_shuffled c_l_named c_l_otherwise c_l_rows c_l_number c_l_game c_l_names
theorem walk {ts:List Addr} {l:PySem.W.OpenLaw} {q:Program} {loose:List Str} {XP:(Str→Option Value)→Heap→Prop} {YP:World→Heap→Prop} {d:DefRec} {K:Params→PySem.W.Frag} (hn:l.most = some 63) (hdf:d.params.defaults = [])
    (hY:∀ (w:World) (h:Heap),YP w h→(K w.params).In h)
    (hT:∀ (w:World) (h:Heap),YP w h→∀ P ∈ ts,h.get? P = some (PySem.W.tabObj #[]))
    (F:∀ (w:World) (mg:Str→Option Value) (fa:Addr) (h:Heap),(K w.params).In h→h.Ns mainGlobals mg→mg d.name = some (.ref fa)→(∃ c P,PySem.W.tabIn (K w.params) "in_order" = some (c,P)∧PySem.W.codeHdIn (K w.params) c P = true∧(K w.params).lookup P = none∧P ∈ ts) ∧
      ∃ fd:FuncData,(∀ (s:Shared) (u:Value),BindsTo s fd ⟨[u],[]⟩ [("_law_script",u)])∧∀ base:Heap,(K w.params).In base→base.Ns mainGlobals mg→BmB mg base→FnOk l.prog w (K w.params) mg base (CXE l.prog w) 12 fa fd ["_law_script"] (sp_lawABT "in_order" (K w.params))) :
    PySem.W.WalkO q loose XP YP l.row.toRowW d [] (fun f vs=>PySem.call f vs) :=
  Lw.walk_ofBT (y:="in_order") (n:=63) (k:=12) (x:="_law_script") (CX:=fun w=>CXE l.prog w) (sp:=fun w=>sp_lawABT "in_order" (K w.params)) hn (by decide) hdf ⟨rfl,by decide,by decide⟩ hY hT F (fun _ _ a ns hl hb hO hS=>⟨ns,a,rfl,hS,hl,hb,hO.1,fun _=>rfl⟩) fun _ _ _ _ _ z=>cxe0 z
end My
def PySem.W.Fast.tw4318584317615439010 := 0
def PySem.W.Fast.tw16908529811654060384 := 0
def PySem.W.Fast.tw3140812776373184896 := 0
def PySem.W.Fast.tw16108691446082987293 := 0
def PySem.W.Fast.tw298816546379458308 := 0
def PySem.W.Fast.tw1363767748521881253 := 0
def PySem.W.Fast.tw5001003315144556137 := 0
def PySem.W.Fast.tw6840677130437459287 := 0
def PySem.W.Fast.tw12693296110981726622 := 0
def PySem.W.Fast.tw7854415380041206766 := 0
def PySem.W.Fast.tw14612893651360471473 := 0
def PySem.W.Fast.tw9370993424223189444 := 0
def PySem.W.Fast.tw4355613278121962943 := 0
def PySem.W.Fast.tw1684542802255020900 := 0
def PySem.W.Fast.tw16911832560403521659 := 0
def PySem.W.Fast.tw7783082537460986043 := 0
def PySem.W.Fast.tw6835694655065515770 := 0
def PySem.W.Fast.tw13976814736428526112 := 0
def PySem.W.Fast.tw14777831805886610577 := 0
def PySem.W.Fast.tw1196695740349034465 := 0
def PySem.W.Fast.tw5966832583869560964 := 0
def PySem.W.Fast.tw101171811512199445 := 0
def PySem.W.Fast.tw16637324418442467647 := 0
def PySem.W.Fast.tw9756628995614654837 := 0
def PySem.W.Fast.tw12618778170396527782 := 0
def PySem.W.Fast.tw507682469712737478 := 0
def PySem.W.Fast.tw2497536332815592974 := 0
def PySem.W.Fast.tw13492201415196617124 := 0
def PySem.W.Fast.tw9070433018610364294 := 0
def PySem.W.Fast.tw4079859010237693493 := 0
def PySem.W.Fast.tw5110781465595962389 := 0
def PySem.W.Fast.tw17538754946851972742 := 0
def PySem.W.Fast.tw10420945115263013346 := 0
def PySem.W.Fast.tw14345377994391637611 := 0
def PySem.W.Fast.tw3555838307980470350 := 0
def PySem.W.Fast.tw6291534121435970658 := 0
def PySem.W.Fast.tw10181698001283380931 := 0
def PySem.W.Fast.tw14004157905473194963 := 0
def PySem.W.Fast.tw5265984461335526309 := 0
def PySem.W.Fast.tw10955655362641923154 := 0
def PySem.W.Fast.tw3241835123728404745 := 0
def PySem.W.Fast.tw7479844589744917912 := 0
def PySem.W.Fast.tw6017592992867335332 := 0
def PySem.W.Fast.tw4883506526766845705 := 0
def PySem.W.Fast.tw7717300295550694714 := 0
def PySem.W.Fast.tw785775329682380474 := 0
def PySem.W.Fast.tw16946355043602187501 := 0
def PySem.W.Fast.tw1552506038832211310 := 0
def PySem.W.Fast.tw6646586866379110124 := 0
def PySem.W.Fast.tw12829062388728290380 := 0
def PySem.W.Fast.tw10083307768944516797 := 0
def PySem.W.Fast.tw1462234620934578676 := 0
def PySem.W.Fast.tw6994513912477627184 := 0
def PySem.W.Fast.tw16899379418309569019 := 0
def PySem.W.Fast.tw14400684251870872734 := 0
def PySem.W.Fast.tw7321351074793833066 := 0
def PySem.W.Fast.tw7060726854107802451 := 0
def PySem.W.Fast.tw2587032487564066069 := 0
def PySem.W.Fast.tw12347918614033921343 := 0
def PySem.W.Fast.tw9289130434905210957 := 0
def PySem.W.Fast.tw8947693016413602836 := 0
def PySem.W.Fast.tw18301058546663225007 := 0
def PySem.W.Fast.tw8539969265853450340 := 0
def PySem.W.Fast.tw2021985836018896341 := 0
def PySem.W.Fast.tw5408701586398893566 := 0
def PySem.W.Fast.tw12061017764943241819 := 0
def PySem.W.Fast.tw13331735283343546577 := 0
def PySem.W.Fast.tw11902121748673765080 := 0
def PySem.W.Fast.tw13364110090745092594 := 0
def PySem.W.Fast.tw8625592624658475120 := 0
def PySem.W.Fast.tw10085075284395987445 := 0
def PySem.W.Fast.tw10979220395996098675 := 0
def PySem.W.Fast.tw17758528707188971499 := 0
def PySem.W.Fast.tw16458407849114463620 := 0
def PySem.W.Fast.tw343633001083508392 := 0
def PySem.W.Fast.tw16911795195148087725 := 0
def PySem.W.Fast.tw1115654281604907898 := 0
def PySem.W.Fast.tw4174211275982746511 := 0
def PySem.W.Fast.tw9205896011269646241 := 0
def PySem.W.Fast.tw1453386861455648105 := 0
def PySem.W.Fast.tw7581848834868666834 := 0
def PySem.W.Fast.tw15965972791457787657 := 0
def PySem.W.Fast.tw4147793414208802814 := 0
def PySem.W.Fast.tw8504099288412073402 := 0
def PySem.W.Fast.tw10041739565799647266 := 0
def PySem.W.Fast.tw9687066436746504913 := 0
def PySem.W.Fast.tw10238863155219231406 := 0
def PySem.W.Fast.tw12583916244175544804 := 0
def PySem.W.Fast.tw6418954173640637171 := 0
def PySem.W.Fast.tw7137606101274987082 := 0
def PySem.W.Fast.tw4552638698448000970 := 0
def PySem.W.Fast.tw11514007347760029844 := 0
def PySem.W.Fast.tw3088289127835643019 := 0
def PySem.W.Fast.tw854985802274359021 := 0
def PySem.W.Fast.tw12833544592457656997 := 0
def PySem.W.Fast.tw1089869990382661267 := 0
def PySem.W.Fast.tw764855946086860131 := 0
def PySem.W.Fast.tw13065545682806848321 := 0
def PySem.W.Fast.tw17060666954326451317 := 0
def PySem.W.Fast.tw15261357137877212812 := 0
def PySem.W.Fast.tw7794252263642057554 := 0
def PySem.W.Fast.tw8274157573277658313 := 0
def PySem.W.Fast.tw16954637671607101955 := 0
def PySem.W.Fast.tw16133546474860491940 := 0
def PySem.W.Fast.tw7117833507923076093 := 0
def PySem.W.Fast.tw12390720070426706589 := 0
def PySem.W.Fast.tw11104015315481869384 := 0
def PySem.W.Fast.tw4417366562383256216 := 0
def PySem.W.Fast.tw17245027609270893238 := 0
def PySem.W.Fast.tw5173896493171856855 := 0
def PySem.W.Fast.tw5315475461198949136 := 0
def PySem.W.Fast.tw15822146122504536257 := 0
def PySem.W.Fast.tw14945721110997015196 := 0
def PySem.W.Fast.tw18229648991474931779 := 0
def PySem.W.Fast.tw15977953051013949964 := 0
def PySem.W.Fast.tw15705040887001142979 := 0
def PySem.W.Fast.tw9590426245303770307 := 0
def PySem.W.Fast.tw8161036285114781778 := 0
def PySem.W.Fast.tw8771137903850195304 := 0
def PySem.W.Fast.tw6262782454329961606 := 0
def PySem.W.Fast.tw3920117573066072329 := 0
def PySem.W.Fast.tw15094753895668858445 := 0
def PySem.W.Fast.tw3268121096616071108 := 0
def PySem.W.Fast.tw16599634557045203243 := 0
def PySem.W.Fast.tw4345288904297084149 := 0
def PySem.W.Fast.tw16078683397608780307 := 0
def PySem.W.Fast.tw10999350953157501852 := 0
def PySem.W.Fast.tw12855495465105292419 := 0
open PySem PySem.W PyProof.Rows
set_option maxRecDepth 100000 in
set_option maxHeartbeats 0 in
theorem PySem.Challenge.cw_ladderworth_k47_whole_walks_told_otherwi_holds : PySem.Challenge.rw_ladderworth_k47_whole_walks_told_otherwi.Holds := by
  w_on; o_law; k_head; (case hw => w_witness2)
  k_fill
  refine My.walk (l:=PySem.Challenge.rw_ladderworth_k47_whole_walks_told_otherwi) rfl rfl (fun w h Y=>PySem.W.km_in_of Y) (fun w h Y=>PySem.W.km_tabs_of Y) ?F
  case F =>
    intro w mg fa h KX G hmg
    refine' My.all_mk KX G hmg ?d0 ?d1 ?d2 ?d3 ?d4 ?d5 ?d6 ?a7 ?l7 ?e7 ?k7 ?d8 ?d9 ?d10 ?d11 ?d12 ?d13 ?d14 ?d15 ?d16 ?d17 ?d18 ?d19 ?d20 ?d21 ?d22 ?d23 ?d24 ?d25 ?d26 ?d27 ?d28 ?d29 ?d30 ?d31 ?d32 ?d33 ?d34 ?d35 ?d36 ?d37 ?d38 ?d39 ?d40 ?d41 ?a42 ?l42 ?e42 ?k42 ?t1 ?t2 ?t3 ?t4 ?t8 ?er ?n_abs ?n_all ?n_bool ?n_dict ?n_enumerate ?n_int ?n_isinstance ?n_len ?n_list ?n_max ?n_min ?n_range ?n_sorted ?n_tuple ?n_zip ?v_FIRST_ROW ?w_FIRST_ROW ?w_FIRST_ROW_1 ?v_LAST_FROM ?v_MOST_PART ?v_MOST_ROWS
    (case er =>
      refine' ⟨PySem.W.mg_of KX G ?_,PySem.W.mg_of KX G ?_,PySem.W.mg_of KX G ?_,PySem.W.mg_of KX G ?_,PySem.W.mg_of KX G ?_,?_,⟨?_,?_,?_,?_,?_,?_⟩,?_,⟨?_,?_,?_,?_⟩,⟨?_,?_⟩,?_,?_,?_,?_,?_,⟨?_,?_,?_,?_⟩,⟨?_,?_⟩,?_,?_,?_,?_,?_,?_,⟨?_,?_,?_,?_⟩,⟨?_,?_⟩,?_,?_,?_,?_,?_,?_,⟨?_,?_,?_,?_⟩,⟨?_,?_⟩,⟨?_,?_⟩,?_,?_,?_⟩
      all_goals (try unfold L2.NoAttr); first | k_is | k_exc | kernel_rfl)
    (case d0 | d13 | d14 | d15 | d16 | d35 | d36=>refine' My.dmk KX G ?uA ?uL ?uE ?uK (fun _ _ _ _ _ _ us hl=>by obtain ⟨_,rfl⟩:=My.lenE1 us hl; rfl); (case uA | uL | uE | uK=>k_is))
    (case d1 | d2 | d3 | d4 | d5 | d8 | d10 | d11 | d12 | d17 | d18 | d29 | d30 | d31 | d32 | d33 | d37 | d38 | d40=>refine' My.dmk KX G ?uA ?uL ?uE ?uK (fun _ _ _ _ _ _ us hl=>by obtain ⟨_,_,rfl⟩:=My.lenE2 us hl; rfl); (case uA | uL | uE | uK=>k_is))
    (case d6 | d28 | d34 | d39=>refine' My.dmk KX G ?uA ?uL ?uE ?uK (fun _ _ _ _ _ _ us hl=>by obtain ⟨_,_,_,rfl⟩:=My.lenE3 us hl; rfl); (case uA | uL | uE | uK=>k_is))
    (case d9 | d41=>refine' My.dmk KX G ?uA ?uL ?uE ?uK (fun _ _ _ _ _ _ us hl=>by obtain ⟨_,_,_,_,rfl⟩:=My.lenE4 us hl; rfl); (case uA | uL | uE | uK=>k_is))
    (case d23 | d25=>refine' My.mmk (Lw.ac_cons ⟨?uA0,?uI0,?uJ0⟩ Lw.ac_nil) Lw.ac_nil ?uL ?uE ?uK (fun _ _ _ _ _ _ us hl=>by obtain ⟨_,_,_,rfl⟩:=My.lenE3 us hl; rfl); (case uA0 | uI0 | uJ0 | uL | uE | uK=>first | k_is | kernel_rfl))
    (case d26 | d27=>refine' My.mmk (Lw.ac_cons ⟨?uA0,?uI0,?uJ0⟩ Lw.ac_nil) Lw.ac_nil ?uL ?uE ?uK (fun _ _ _ _ _ _ us hl=>by obtain ⟨_,_,_,_,_,rfl⟩:=My.lenE5 us hl; rfl); (case uA0 | uI0 | uJ0 | uL | uE | uK=>first | k_is | kernel_rfl))
    (case d22 | d24=>refine' My.mmk (Lw.ac_cons ⟨?uA0,?uI0,?uJ0⟩ Lw.ac_nil) Lw.ac_nil ?uL ?uE ?uK (fun _ _ _ _ _ _ us hl=>by obtain ⟨_,_,_,_,_,_,rfl⟩:=My.lenE6 us hl; rfl); (case uA0 | uI0 | uJ0 | uL | uE | uK=>first | k_is | kernel_rfl))
    (case d19=>refine' My.mmk (Lw.ac_cons ⟨?uA0,?uI0,?uJ0⟩ Lw.ac_nil) (Lw.ac_cons ?uG0 Lw.ac_nil) ?uL ?uE ?uK (fun _ _ _ _ _ _ us hl=>by obtain ⟨_,_,_,_,rfl⟩:=My.lenE4 us hl; rfl); (case uA0 | uI0 | uJ0 | uG0 | uL | uE | uK=>first | k_is | kernel_rfl))
    (case d20=>refine' My.mmk (Lw.ac_cons ⟨?uA0,?uI0,?uJ0⟩ (Lw.ac_cons ⟨?uA1,?uI1,?uJ1⟩ Lw.ac_nil)) Lw.ac_nil ?uL ?uE ?uK (fun _ _ _ _ _ _ us hl=>by obtain ⟨_,_,_,rfl⟩:=My.lenE3 us hl; rfl); (case uA0 | uI0 | uJ0 | uA1 | uI1 | uJ1 | uL | uE | uK=>first | k_is | kernel_rfl))
    (case d21=>refine' My.mmk (Lw.ac_cons ⟨?uA0,?uI0,?uJ0⟩ (Lw.ac_cons ⟨?uA1,?uI1,?uJ1⟩ (Lw.ac_cons ⟨?uA2,?uI2,?uJ2⟩ Lw.ac_nil))) Lw.ac_nil ?uL ?uE ?uK (fun _ _ _ _ _ _ us hl=>by obtain ⟨_,_,_,_,_,rfl⟩:=My.lenE5 us hl; rfl); (case uA0 | uI0 | uJ0 | uA1 | uI1 | uJ1 | uA2 | uI2 | uJ2 | uL | uE | uK=>first | k_is | kernel_rfl))
    (case a7 | l7 | e7 | k7 => k_is)
    (case a42 | l42 | e42 | k42 => k_is)
    (case t1 => k_is)
    (case t2 => exact rfl)
    (case t3 | t4 => kernel_rfl)
    (case t8 => exact List.mem_singleton.mpr rfl)
    (case n_abs | n_all | n_bool | n_dict | n_enumerate | n_int | n_isinstance | n_len | n_list | n_max | n_min | n_range | n_sorted | n_tuple | n_zip=>refine' PySem.W.mg_none_of KX G ?_; k_is)
    (case v_FIRST_ROW=>refine' ⟨_,PySem.W.mg_of KX G ?uP,rfl⟩; (case uP=>k_is))
    (case w_FIRST_ROW=>refine' My.tup_mk ?uP ?uH ?uQ; (case uP=>k_is); (case uH=>show 2 ≤ sizeLine; decide); (case uQ=>exact (Paired.cons ⟨_,rfl⟩ (Paired.cons rfl Paired.nil))))
    (case w_FIRST_ROW_1=>refine' My.tup_mk ?uP ?uH ?uQ; (case uP=>k_is); (case uH=>show 2 ≤ sizeLine; decide); (case uQ=>exact (Paired.cons ⟨_,rfl⟩ (Paired.cons ⟨_,rfl⟩ Paired.nil))))
    (case v_LAST_FROM=>refine' ⟨_,PySem.W.mg_of KX G ?uP,?uQ⟩; (case uP=>k_is); (case uQ=>exact ⟨_,rfl⟩))
    (case v_MOST_PART=>refine' ⟨_,PySem.W.mg_of KX G ?uP,?uQ⟩; (case uP=>k_is); (case uQ=>exact ⟨_,rfl⟩))
    (case v_MOST_ROWS=>refine' ⟨_,PySem.W.mg_of KX G ?uP,?uQ⟩; (case uP=>k_is); (case uQ=>exact ⟨_,rfl⟩))
#print axioms PySem.Challenge.cw_ladderworth_k47_whole_walks_told_otherwi_holds
