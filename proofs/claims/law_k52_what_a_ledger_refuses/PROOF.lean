import PyProof.Rows.All
import Wide.All
import OpenK.AllK
import Wide.FinOn
import Lean
import PyProof.EqAt
import PyProof.EqKinds
import PyProof.TupleCall
import PyProof.Cells
import PyProof.AutoSeq1
import PyProof.MaxThree
import KE.KSortTup
import KE.KDflt
import PyProof.ListOps
import PyProof.AttrMissHeap
import PyProof.FactsAll.zip
import KE.KItemsList
import PyProof.DictUpdate
import PyProof.NeKinds
import PySem.Challenge.RW_ladderworth_k52_what_a_ledger_refuses
set_option linter.all false
set_option maxRecDepth 100000
set_option Elab.async false
set_option maxHeartbeats 4000000
local macro_rules | `(tactic| trivial) => `(tactic| first | exact .inl rfl | exact .inr rfl | assumption)
namespace L2
open PySem PySem.Spec PyProof.Rows
abbrev Bl:=Sum Int Str
def K1:Bl→Value→Bool
 |.inl k,v=>Value.isInt k v
 |.inr x,v=>Value.isStrOf x v
def Ajz (w:World):Bl→Int
 |.inl k=>hashInt k
 |.inr x=>hashStr w x
theorem Bc:∀{k:Bl} {v:Value},K1 k v=true→(∃i t,k=Sum.inl i∧v=Value.int i t)∨(∃x t,k=Sum.inr x∧v=Value.str x t)
 |.inl i,v,h=>by
  obtain ⟨t,e⟩:=Value.isInt_shape (k:=i) (v:=v) h
  exact .inl ⟨i,t,rfl,e⟩
 |.inr x,v,h=>by
  obtain ⟨t,e⟩:=Value.isStrOf_shape (x:=x) (v:=v) h
  exact .inr ⟨x,t,rfl,e⟩
theorem V7 (i:Int)(t:Tok):K1 (.inl i) (.int i t)=true:=by simp [K1,Value.isInt]
theorem W0 (x:Str)(t:Tok):K1 (.inr x) (.str x t)=true:=by simp [K1,Value.isStrOf]
theorem Afu (a b:Int):decide ((Sum.inl a:Bl)=Sum.inl b)=(a==b):=by
 by_cases e:a=b
 ·subst e;simp
 ·have h:¬(Sum.inl a:Bl)=Sum.inl b:=fun q=>e (Sum.inl.inj q)
  rw [decide_eq_false h]
  exact (beq_eq_false_iff_ne.mpr e).symm
theorem Afd (a b:Str):decide ((Sum.inr a:Bl)=Sum.inr b)=decide (a=b):=by
 by_cases e:a=b
 ·subst e;simp
 ·have h:¬(Sum.inr a:Bl)=Sum.inr b:=fun q=>e (Sum.inr.inj q)
  rw [decide_eq_false h,decide_eq_false e]
theorem Aex (a:Int)(b:Str):decide ((Sum.inl a:Bl)=Sum.inr b)=false:=decide_eq_false (fun q=>nomatch q)
theorem Afe (a:Str)(b:Int):decide ((Sum.inr a:Bl)=Sum.inl b)=false:=decide_eq_false (fun q=>nomatch q)
def A3 (prog:Program)(w:World):PySem.KeyKind prog w Bl where
 is:=K1
 hash:=Ajz w
 inj:=fun v a b ha hb=>by
  rcases Bc ha with ⟨i,t,rfl,rfl⟩|⟨x,t,rfl,rfl⟩
  ·rcases Bc hb with ⟨j,u,rfl,e⟩|⟨y,u,rfl,e⟩
   ·injection e with e1 _;rw [e1]
   ·exact nomatch e
  ·rcases Bc hb with ⟨j,u,rfl,e⟩|⟨y,u,rfl,e⟩
   ·exact nomatch e
   ·injection e with e1 _;rw [e1]
 byValue:=fun k v h=>by
  rcases Bc h with ⟨i,t,rfl,rfl⟩|⟨x,t,rfl,rfl⟩<;>rfl
 pyHash:=fun hv h=>by
  rcases Bc hv with ⟨i,t,rfl,rfl⟩|⟨x,t,rfl,rfl⟩
  ·exact wpAny_pyHash_int h
  ·exact wpAny_pyHash_str h
 eqBool:=fun hu hv h=>by
  rcases Bc hu with ⟨i,t,rfl,rfl⟩|⟨x,t,rfl,rfl⟩
  ·rcases Bc hv with ⟨j,u,rfl,rfl⟩|⟨y,u,rfl,rfl⟩
   ·rw [Afu] at h;exact wpAny_eqBool_int h
   ·rw [Aex] at h;exact SeqAt.EqAt.int_str i t y u _ _ _ _ h
  ·rcases Bc hv with ⟨j,u,rfl,rfl⟩|⟨y,u,rfl,rfl⟩
   ·rw [Afe] at h;exact SeqAt.EqAt.str_int x t j u _ _ _ _ h
   ·rw [Afd] at h;exact wpAny_eqBool_str h
 «strs»:=fun k x t v h=>by
  rcases Bc h with ⟨i,u,rfl,e⟩|⟨y,u,rfl,e⟩
  ·exact nomatch e
  ·injection e with e1 _
   subst e1
   cases v<;>rfl
theorem Q3 (prog:Program)(w:World)(i:Int)(t:Tok):(A3 prog w).is (.inl i) (.int i t)=true:=V7 i t
theorem Q4 (prog:Program)(w:World)(x:Str)(t:Tok):(A3 prog w).is (.inr x) (.str x t)=true:=W0 x t
end L2
namespace L2
open PySem PySem.Spec PyProof.Rows
inductive V where
 |non|bl (b:Bool)|int (i:Int)|str (x:Str)|byt (b:Array UInt8)|flt (b:UInt64)|ref (a:Addr)|ty (n:String)
 deriving DecidableEq
def RelV:V→Value→Prop
 |.non,u=>u=Value.none
 |.bl b,u=>u=Value.bool b
 |.int i,u=>∃t,u=Value.int i t
 |.str x,u=>∃t,u=Value.str x t
 |.byt b,u=>∃t,u=Value.bytes b t
 |.flt b,u=>∃t,u=Value.float b t
 |.ref a,u=>u=Value.ref a
 |.ty n,u=>u=Value.type n
abbrev Az:List V→List Value→Prop:=Paired RelV
theorem Az.length {xs:List V}{us:List Value}(r:Az xs us):xs.length=us.length:=Paired.length r
theorem Az.get:∀{xs:List V} {us:List Value} {i:Nat} {x:V},Az xs us→xs[i]? =some x→∃u,us[i]? =some u∧RelV x u
 |_,_,_,_,.nil,e=>by simp at e
 |_,_,0,_,.cons r _,e=>by simp at e;subst e;exact ⟨_,rfl,r⟩
 |_,_,i+1,x,.cons _ t,e=>by
  obtain ⟨u,h1,h2⟩:=Az.get (i:=i) (x:=x) t (by simpa using e)
  exact ⟨u,by simpa using h1,h2⟩
theorem Az.set {x:V}{u:Value}(r:RelV x u):∀{xs:List V} {us:List Value} (i:Nat),Az xs us→Az (xs.set i x) (us.set i u)
 |_,_,_,.nil=>.nil
 |_,_,0,.cons _ t=>.cons r t
 |_,_,i+1,.cons q t=>.cons q (Az.set r i t)
theorem Az.append:∀{xs ys:List V} {us ws:List Value},Az xs us→Az ys ws→Az (xs++ys) (us++ws)
 |_,_,_,_,.nil,s=>s
 |_,_,_,_,.cons r t,s=>.cons r (Az.append t s)
theorem Az.take:∀{xs:List V} {us:List Value} (n:Nat),Az xs us→Az (xs.take n) (us.take n)
 |_,_,0,_=>.nil
 |_,_,_+1,.nil=>.nil
 |_,_,n+1,.cons r t=>.cons r (Az.take n t)
theorem Az.drop:∀{xs:List V} {us:List Value} (n:Nat),Az xs us→Az (xs.drop n) (us.drop n)
 |_,_,0,r=>r
 |_,_,_+1,.nil=>.nil
 |_,_,n+1,.cons _ t=>Az.drop n t
def F0:Option V→Option Value→Prop
 |some v,some u=>RelV v u
 |none,none=>True
 |_,_=>False
def KV {κ:Type}:List (κ×V)→List (κ×Value)→Prop:=Paired fun (p:κ×V) (q:κ×Value)=>p.1=q.1∧RelV p.2 q.2
def kV:Bl→V
 |.inl i=>.int i
 |.inr x=>.str x
inductive HO where
 |lst (xs:List V)
 |tup (xs:List V)
 |dK (kvs:List (Bl×V))|dT (kvs:List (List Bl×V))
 |set (S:Int→Bool) (n:Nat)
 |ins (C dx:Addr) (fs:List (Str×V))
 |own (x:Addr)
 |xd (fs:List (Str×V))
 |met (f x:Addr)
 |rng (lo hi:Int)
 |frz (o:Obj) (u:HO)
 |tbl (ps:Array Value)
 |ext (φ:Heap→Prop)
abbrev Hp:=Addr→Option HO
def upd (H:Hp)(a:Addr)(o:HO):Hp:=fun b=>if b=a then some o else H b
theorem Ad {H:Hp}{a:Addr}{o:HO}:upd H a o a=some o:=by unfold upd;rw [if_pos rfl]
theorem Ak {H:Hp}{a b:Addr}{o:HO}(h:b≠a):upd H a o b=H b:=by unfold upd;rw [if_neg h]
theorem Vm {H:Hp}{a:Addr}{o u:HO}:upd (upd H a o) a u=upd H a u:=by
 funext b;unfold upd;split<;>rfl
theorem Ai3 {H:Hp}{a b:Addr}{o u:HO}(h:H a=some o)(h':H b=some u)(d:o≠u):a≠b:=by
 intro e;subst e;rw [h] at h';exact d (Option.some.inj h')
theorem A9 {H:Hp}{a b:Addr}{o:HO}(h:H a=some o)(h':H b=none):a≠b:=by
 intro e;subst e;rw [h] at h';cases h'
section
variable (P:Program)(w:World)
def A4 (H:Hp)(h:Heap)(a:Addr):HO→Prop
 |.lst xs=>xs.length≤sizeLine∧∃(its:List Value) (n:Nat),Az xs its∧h.get? a=some { cls:=.type "list",data:=.seq its.toArray n }
 |.tup xs=>xs.length≤sizeLine∧∃its:List Value,Az xs its∧IsTup h a its.toArray
 |.dK kvs=>kvs.length≤sizeLine∧(a==sysModules)=false∧∃vs,KV kvs vs∧h.DictOf (A3 P w) a vs
 | .dT kvs=>kvs.length≤sizeLine∧(a==sysModules)=false∧∃xs:List (List Bl×Addr×Value),
   Paired (fun (p:List Bl×V) (q:List Bl×Addr×Value)=>p.1=q.1∧H q.2.1=some (.tup (p.1.map kV))∧RelV p.2 q.2.2) kvs xs ∧
   ∃o es ep,h.get? a=some o∧o.ExactDict∧o.data=.dict es ep∧es.toList=xs.map (entryOfKey (tupleKind (A3 P w)))∧(xs.map (·.1)).Nodup
 |.set S n=>h.SetOf (intKind P w) a S n
 | .ins C dx fs=>H dx=some (.own a)∧fs.length≤1000∧dx≠a∧h.get? a=some (PySem.W.instObj C dx) ∧
   ∃mA,h.Ns1 dx mA∧(∀f,F0 (fs.lookup f) (mA f))∧PySem.Within mA (fs.map (·.1))
 |.own _=>∃o,h.get? a=some o
 |.xd fs=>∃mA,h.Ns1 a mA∧∀f,F0 (fs.lookup f) (mA f)
 |.rng lo hi=>∃t u v,h.get? a=some { cls:=.type "range",data:=.fields #[.int lo t,.int hi u,.int 1 v] }
 |.frz o u=>h.get? a=some o∧A4 H h a u
 |.tbl ps=>h.get? a=some { cls:=.none,data:=.fields ps }
 |.met f x=>h.get? a=some (PySem.W.methodObj (.ref f) (.ref x))
 |.ext φ=>φ h∧(∃o,h.get? a=some o)∧∀h1 h2:Heap,φ h1→(∀o,h1.get? a=some o→h2.get? a=some o)→φ h2
def G9 (H:Hp)(h:Heap):Prop:=∀a o,H a=some o→A4 P w H h a o
end
section
variable {P:Program}{w:World}{H H':Hp}{h h':Heap}{a:Addr}{o:HO}
theorem A4.lt (x:A4 P w H h a o):a<h.objs.size:=by
 cases o with
 |lst xs=>obtain ⟨_,_,_,_,e⟩:=x;exact Heap.lt_size e
 |tup xs=>obtain ⟨_,_,_,p⟩:=x;exact p.lt
 |dK kvs=>obtain ⟨_,_,_,_,o,_,_,e,_⟩:=x;exact Heap.lt_size e
 |dT kvs=>obtain ⟨_,_,_,_,o,_,_,e,_⟩:=x;exact Heap.lt_size e
 |set S n=>obtain ⟨o,_,_,_,e,_⟩:=x;exact Heap.lt_size e
 |ins C dx fs=>obtain ⟨_,_,_,e,_⟩:=x;exact Heap.lt_size e
 |own y=>obtain ⟨_,e⟩:=x;exact Heap.lt_size e
 |xd fs=>obtain ⟨_,⟨_,_,_,e,_⟩,_⟩:=x;exact Heap.lt_size e
 |rng lo hi=>obtain ⟨_,_,_,e⟩:=x;exact Heap.lt_size e
 |frz ob u=>obtain ⟨e,_⟩:=x;exact Heap.lt_size e
 |tbl ps=>exact Heap.lt_size (show h.get? a=some _ from x)
 |met f y=>exact Heap.lt_size (show h.get? a=some _ from x)
 |ext φ=>obtain ⟨_,⟨_,e⟩,_⟩:=x;exact Heap.lt_size e
theorem Paired.mapP {α β:Type}{F G:α→β→Prop}:∀{l₁:List α} {l₂:List β},Paired F l₁ l₂→(∀a b,F a b→G a b)→Paired G l₁ l₂
 |_,_,.nil,_=>.nil
 |_,_,.cons r t,f=>.cons (f _ _ r) (Paired.mapP t f)
theorem A4.stay (x:A4 P w H h a o)(k:∀b u,(b=a∨H b=some (.own a))→h.get? b=some u→h'.get? b=some u)
  (ho:∀b,H b=some (.own a)→H' b=some (.own a)) (ht:∀b xs,H b=some (.tup xs)→H' b=some (.tup xs)):A4 P w H' h' a o:=by
 induction o with
 |lst xs=>obtain ⟨z,its,n,r,e⟩:=x;exact ⟨z,its,n,r,k _ _ (.inl rfl) e⟩
 |tup xs=>obtain ⟨z,its,r,ob,e,c⟩:=x;exact ⟨z,its,r,ob,k _ _ (.inl rfl) e,c⟩
 |dK kvs=>obtain ⟨z,y,vs,r,ob,es,ep,e,c⟩:=x;exact ⟨z,y,vs,r,ob,es,ep,k _ _ (.inl rfl) e,c⟩
 |dT kvs=>
  obtain ⟨z,y,xs,r,ob,es,ep,e,c⟩:=x
  exact ⟨z,y,xs,Paired.mapP r fun p q z=>⟨z.1,ht _ _ z.2.1,z.2.2⟩,ob,es,ep,k _ _ (.inl rfl) e,c⟩
 |set S n=>obtain ⟨ob,es,ep,t,e,c⟩:=x;exact ⟨ob,es,ep,t,k _ _ (.inl rfl) e,c⟩
 |ins C dx fs=>
  obtain ⟨d,z,ne,e,mA,⟨od,es,ep,e2,c⟩,r⟩:=x
  exact ⟨ho _ d,z,ne,k _ _ (.inl rfl) e,mA,⟨od,es,ep,k _ _ (.inr d) e2,c⟩,r⟩
 |own y=>obtain ⟨ob,e⟩:=x;exact ⟨ob,k _ _ (.inl rfl) e⟩
 |xd fs=>obtain ⟨mA,⟨od,es,ep,e,c⟩,r⟩:=x;exact ⟨mA,⟨od,es,ep,k _ _ (.inl rfl) e,c⟩,r⟩
 |rng lo hi=>obtain ⟨t,u,v,e⟩:=x;exact ⟨t,u,v,k _ _ (.inl rfl) e⟩
 |frz ob u ih=>obtain ⟨e,q⟩:=x;exact ⟨k _ _ (.inl rfl) e,ih q⟩
 |tbl ps=>
  have e:h.get? a=some { cls:=.none,data:=.fields ps }:=x
  show h'.get? a=some { cls:=.none,data:=.fields ps }
  exact k a _ (.inl rfl) e
 |met f y=>
  have e:h.get? a=some (PySem.W.methodObj (.ref f) (.ref y)):=x
  show h'.get? a=some (PySem.W.methodObj (.ref f) (.ref y))
  exact k a _ (.inl rfl) e
 |ext φ=>obtain ⟨p,⟨o,e⟩,st⟩:=x;exact ⟨st _ _ p fun o q=>k _ _ (.inl rfl) q,⟨o,k _ _ (.inl rfl) e⟩,st⟩
theorem G9.lt (x:G9 P w H h)(e:H a=some o):a<h.objs.size:=(x a o e).lt
theorem G9.fresh (x:G9 P w H h)(e:h.objs.size≤a):H a=none:=by
 cases q:H a with
 |none=>rfl
 |some u=>exact absurd (Nat.lt_of_lt_of_le (x.lt q) e) (Nat.lt_irrefl _)
theorem G9.kept (x:G9 P w H h)(k:∀b u,h.get? b=some u→h'.get? b=some u):G9 P w H h':=fun a o e=>
 (x a o e).stay (fun b u _ q=>k b u q) (fun _ q=>q) fun _ _ q=>q
theorem G9.laid (x:G9 P w H h)(k:∀b u,h.get? b=some u→h'.get? b=some u)(hp:h.objs.size≤a)(new:A4 P w (upd H a o) h' a o):G9 P w (upd H a o) h':=fun b u e=>by
 have hn:=x.fresh hp
 by_cases hb:b=a
 ·subst hb;rw [Ad] at e;cases e;exact new
 ·rw [Ak hb] at e
  exact (x b u e).stay (fun c v _ q=>k c v q) (fun c q=>by rw [Ak (A9 q hn)];exact q) fun c xs q=>by rw [Ak (A9 q hn)];exact q
end
def Rd (H:Hp)(a:Addr)(u:HO):Prop:=H a=some u∨∃o,H a=some (.frz o u)
theorem Rd.ok {P:Program}{w:World}{H:Hp}{h:Heap}{a:Addr}{u:HO}(r:Rd H a u)(x:G9 P w H h):A4 P w H h a u:=by
 rcases r with r|⟨o,r⟩
 ·exact x a u r
 ·obtain ⟨_,q⟩:=x a _ r
  exact q
def Mut:Option HO→Prop
 |some (.lst _)=>True
 |some (.dK _)=>True
 |some (.dT _)=>True
 |some (.set _ _)=>True
 |some (.ins _ _ _)=>True
 |some (.ext _)=>True
 |_=>False
section
variable {P:Program}{w:World}{H:Hp}{h h':Heap}{x e:Addr}{o':HO}
theorem G9.write (ok:G9 P w H h)(mu:Mut (H x))(he:e=x∨H e=some (.own x))(k:∀b u,b≠e→h.get? b=some u→h'.get? b=some u)(heo:∃u,h'.get? e=some u)
  (new:A4 P w (upd H x o') h' x o'):G9 P w (upd H x o') h':=fun b u q=>by
 have nown:∀c y,H c=some (.own y)→c≠x:=fun c y r z=>by subst z;rw [r] at mu;exact mu
 have ntup:∀c xs,H c=some (.tup xs)→c≠x:=fun c xs r z=>by subst z;rw [r] at mu;exact mu
 by_cases hb:b=x
 ·subst hb;rw [Ad] at q;cases q;exact new
 ·rw [Ak hb] at q
  by_cases hbe:b=e
  ·have q':H b=some (.own x):=by
    rcases he with z|z
    ·exact absurd (hbe.trans z) hb
    ·rw [hbe];exact z
   rw [q] at q';cases q'
   obtain ⟨v,hv⟩:=heo
   exact ⟨v,by rw [hbe];exact hv⟩
  ·refine (ok b u q).stay (fun c v hc r=>k c v ?_ r) (fun c r=>by rw [Ak (nown c b r)];exact r) fun c xs r=>by rw [Ak (ntup c xs r)];exact r
   rcases hc with rfl|hc
   ·exact hbe
   ·rintro rfl
    rcases he with z|z
    ·exact nown c b hc z
    ·rw [hc] at z;cases z;exact hb rfl
end
structure Un (fs ex:List Addr)(H H':Hp)(h h':Heap):Prop where
 keep:∀b o,h.get? b=some o→H b=none→b∉fs→b∉ex→h'.get? b=some o
 slot:∀b o,h.get? b=some o→H b=none→b∈fs→b∉ex→∃sl,h'.get? b=some { o with slots:=sl }
 free:∀b o,h.get? b=some o→H b=none→b∉ex→H' b=none
 there:∀b o,h.get? b=some o→b∉ex→∃o',h'.get? b=some o'
 tups:∀b xs,H b=some (.tup xs)→H' b=some (.tup xs)
 frzs:∀b o u,H b=some (.frz o u)→H' b=some (.frz o u)
 tbls:∀b ps,H b=some (.tbl ps)→∃more,H' b=some (.tbl (ps++more))
section
variable {fs fs' ex ex':List Addr}{H H1 H2:Hp}{h h1 h2 h':Heap}{a x e:Addr}{o:HO}
theorem Un.any (u:Un fs ex H H1 h h1){b:Addr}{ob:Obj}(q:h.get? b=some ob)(n:H b=none)(hx:b∉ex):∃sl,h1.get? b=some { ob with slots:=sl }:=by
 by_cases hb:b∈fs
 ·exact u.slot b ob q n hb hx
 ·exact ⟨ob.slots,u.keep b ob q n hb hx⟩
theorem Un.kept (k:∀b u,h.get? b=some u→h'.get? b=some u):Un fs ex H H h h' :=
 ⟨fun b ob q _ _ _=>k b ob q,fun b ob q _ _ _=>⟨ob.slots,k b ob q⟩,fun _ _ _ n _=>n,fun b ob q _=>⟨ob,k b ob q⟩,fun _ _ q=>q,fun _ _ _ q=>q,fun _ ps q=>⟨#[],by rw [q];simp⟩⟩
theorem Un.refl:Un fs ex H H h h:=Un.kept fun _ _ q=>q
theorem Un.laid (k:∀b u,h.get? b=some u→h'.get? b=some u)(hp:h.objs.size≤a)(hn:H a=none):Un fs ex H (upd H a o) h h' where
 keep:=fun b u q _ _ _=>k b u q
 slot:=fun b u q _ _ _=>⟨u.slots,k b u q⟩
 free:=fun b u q n _=>by rw [Ak (Nat.ne_of_lt (Nat.lt_of_lt_of_le (Heap.lt_size q) hp))];exact n
 there:=fun b u q _=>⟨u,k b u q⟩
 tups:=fun b xs q=>by rw [Ak (A9 q hn)];exact q
 frzs:=fun b u xs q=>by rw [Ak (A9 q hn)];exact q
 tbls:=fun b ps q=>⟨#[],by rw [Ak (A9 q hn),q];simp⟩
theorem Un.write (mu:Mut (H x))(he:e=x∨H e=some (.own x))(k:∀b u,b≠e→h.get? b=some u→h'.get? b=some u)(heo:∃u,h'.get? e=some u):Un fs ex H (upd H x o) h h':=by
 have hx:∀b,H b=none→b≠x:=fun b n z=>by subst z;rw [n] at mu;exact mu
 have hb:∀b,H b=none→b≠e:=fun b n z=>by
  subst z
  rcases he with r|r
  ·exact hx b n r
  ·rw [n] at r;cases r
 have hm:∀b u,H b=some u→¬Mut (some u)→b≠x:=fun b u q nm z=>by subst z;rw [q] at mu;exact nm mu
 refine ⟨fun b u q n _ _=>k b u (hb b n) q,fun b u q n _ _=>⟨u.slots,k b u (hb b n) q⟩,fun b u q n _=>by rw [Ak (hx b n)];exact n,fun b u q _=>?_,
  fun b xs q=>by rw [Ak (hm b _ q fun z=>z)];exact q,fun b u xs q=>by rw [Ak (hm b _ q fun z=>z)];exact q,fun b ps q=>⟨#[],by rw [Ak (hm b _ q fun z=>z),q];simp⟩⟩
 by_cases hbe:b=e
 ·subst hbe;exact heo
 ·exact ⟨u,k b u hbe q⟩
end
def trk (h:Heap)(H:Hp):List Addr:=(List.range h.objs.size).filter fun a=>(H a).isSome
def Pe (h:Heap)(H:Hp):Heap:=PySem.W.hideAll h (trk h H)
theorem W5 (h:Heap)(H:Hp):(Pe h H).objs.size=h.objs.size:=PySem.W.hideAll_size _ _
theorem Mn {h:Heap}{H:Hp}{b:Addr}{o:Obj}(e:h.get? b=some o)(n:H b=none):(Pe h H).get? b=some o:=
 PySem.W.hideAll_get _ e fun hm=>by
  have q:(H b).isSome=true:=(List.mem_filter.mp hm).2
  rw [n] at q;simp at q
theorem Abl {h:Heap}{H:Hp}{b:Addr}{o:Obj}(e:(Pe h H).get? b=some o):h.get? b=some o∧H b=none:=by
 have e':h.get? b=some o:=PySem.W.of_hideAll (trk h H) e
 refine ⟨e',?_⟩
 cases q:H b with
 |none=>rfl
 |some x=>
  have hm:b∈trk h H:=List.mem_filter.mpr ⟨List.mem_range.mpr (Heap.lt_size e'),by simp [q]⟩
  have z:(Pe h H).get? b=none:=PySem.W.hideAll_none (trk h H) hm
  rw [z] at e;cases e
def Aby (g h:Heap)(L:Addr):List (Addr×Obj):=(List.range h.objs.size).filterMap fun a=>if a=L∨(g.get? a).isSome=true then none else (h.get? a).map fun o=>(a,o)
def Ef (g h:Heap)(L d:Addr):List (Addr×Obj):=(Aby g h L).filter fun p=>decide (p.1≠d)
end L2
namespace L2
open PySem PySem.Spec PyProof.Rows
structure Mod (K:PySem.W.Frag)(mg:Str→Option Value)(base:Heap):Prop where
 kin:K.In base
 glob:base.Ns mainGlobals mg
 blt:∃mb,base.Ns builtinsNs mb∧∀x:Str,x≠"__name__"→mb x=bootBuiltins x
 nolimit:base.NoLimit
/-- the context: a def's body (or a comprehension's block) running. base: fixed through the whole law;s₀,H₀: the entry;outer: the frames whose slots others may change (a def's callers);stack: all frames that run;
   ex: iterators that were made ahead of the entry and are walked here (a comprehension's);fn: the names whose cells were made at the entry (a def: all;a comprehension's block: its own);calm: not within an except suite;pn: pins that every state bears;xe: what is wanted of an exception that leaves the code -/
structure Cx where
 prog:Program
 w:World
 K:PySem.W.Frag
 mg:Str→Option Value
 base:Heap
 A:Around
 N:List Str
 s₀:Shared
 H₀:Hp
 env:Env
 outer:List Env
 stack:List Env
 ex:List Addr
 fn:Str→Bool
 calm:Bool
 pn:List (Addr×Obj)
 xe:Value→Shared→Prop
def Ie (l:List Env):List Addr:=l.filterMap (·.frame)
abbrev Cx.fs (X:Cx):List Addr:=Ie X.outer
def Vis (sc:Scope)(x:Str):Prop:=sc.names.lookup x=some .local∨sc.names.lookup x=some .cell∨sc.names.lookup x=some .free
def Loc (sc:Scope)(x:Str):Prop:=sc.names.lookup x=some .local∨sc.names.lookup x=some .cell
def Aen (env:Env)(h:Heap)(m:Str→Option Value)(x:Str)(u:Value):Prop:=
 (env.kindOf x=some .local∧m x=some u)∨((env.kindOf x=some .cell∨env.kindOf x=some .free)∧∃c,env.cells.lookup x=some c∧h.IsCell c (some u))
structure Cx.Ok (X:Cx):Prop where
 mod:Mod X.K X.mg X.base
 kind:X.env.scope.kind=.function
 glob:X.env.globals=mainGlobals
 blt:X.env.builtins=builtinsNs
 above:X.s₀.heap.objs.size≤X.env.locals
 inj:∀x y c,X.env.cells.lookup x=some c→X.env.cells.lookup y=some c→x=y
 has:∀x,(X.env.kindOf x=some .cell∨X.env.kindOf x=some .free)→∃c,X.env.cells.lookup x=some c
 cab:∀x c,X.fn x=true→X.env.cells.lookup x=some c→X.s₀.heap.objs.size≤c
 hd:X.calm=true→X.A.handled=none
 frames:X.A.frames=some X.stack
 stk:X.stack=X.outer∨(X.stack=X.env::X.outer∧X.env.frame=some X.env.locals)
 exf:∀b∈X.ex,b≠X.env.locals∧∀x c,X.env.cells.lookup x=some c→c≠b
 bs:∀b o,X.base.get? b=some o→X.s₀.heap.get? b=some o∧X.H₀ b=none
 bsz:X.base.objs.size≤X.s₀.heap.objs.size
 noex:∀b o,X.base.get? b=some o→b∉X.ex
 exfs:∀b∈X.ex,b∉X.fs
 funs:X.s₀.heap.FunFrames X.base X.outer
 frf:∀b∈X.fs,X.H₀ b=none
structure Ap (X:Cx)(pins:List (Addr×Obj))(σ:List (Option V))(H:Hp)(s:Shared):Prop where
 ok:X.Ok
 os:s.os=X.s₀.os
 bare:AllBare s.gens
 base:Un X.fs X.ex X.H₀ H X.s₀.heap s.heap
 loc:∃m,s.heap.Ns X.env.locals m∧∀(i:Nat) (x:Str) (v:V),X.N[i]? =some x→σ[i]? =some (some v)→Vis X.env.scope x→∃u,RelV v u∧Aen X.env s.heap m x u
 cell:∀x c,X.env.cells.lookup x=some c→∃v,s.heap.IsCell c v
 free:H X.env.locals=none
 freeC:∀x c,X.env.cells.lookup x=some c→H c=none
 pin:∀p∈X.pn++pins,s.heap.get? p.1=some p.2∧H p.1=none∧p.1≠X.env.locals∧p.1∉X.fs∧∀v,p.2.data≠.cell v
 hok:G9 X.prog X.w H s.heap
 len:σ.length=X.N.length
section
variable {X:Cx}{pins:List (Addr×Obj)}{σ:List (Option V)}{H H':Hp}{s:Shared}{h':Heap}
theorem Cx.Ok.nofr (ok:X.Ok){b:Addr}{o:Obj}(e:X.base.get? b=some o):b∉X.fs:=fun hb=>by
 have:=(ok.funs.mem hb).1
 rw [e] at this;cases this
theorem Ap.bs (I:Ap X pins σ H s):∀b o,X.base.get? b=some o→s.heap.get? b=some o∧H b=none:=fun b o e=>
 ⟨I.base.keep b o (I.ok.bs b o e).1 (I.ok.bs b o e).2 (I.ok.nofr e) (I.ok.noex b o e),I.base.free b o (I.ok.bs b o e).1 (I.ok.bs b o e).2 (I.ok.noex b o e)⟩
theorem Ap.bk (I:Ap X pins σ H s):∀b o,X.base.get? b=some o→s.heap.get? b=some o:=fun b o e=>(I.bs b o e).1
theorem Ap.mod (I:Ap X pins σ H s):Mod X.K X.mg X.base:=I.ok.mod
theorem Ap.kIn (I:Ap X pins σ H s):X.K.In s.heap:=I.ok.mod.kin.keeps I.bk
theorem Ap.nolimit (I:Ap X pins σ H s):s.heap.NoLimit:=I.ok.mod.nolimit.keeps I.bk
theorem Ap.lt (I:Ap X pins σ H s):X.env.locals<s.heap.objs.size:=let ⟨_,hn,_⟩:=I.loc;hn.lt
theorem Ap.sz (I:Ap X pins σ H s):X.s₀.heap.objs.size≤s.heap.objs.size:=Nat.le_trans I.ok.above (Nat.le_of_lt I.lt)
theorem Ap.nofs (I:Ap X pins σ H s){a:Addr}(h:s.heap.objs.size≤a):a∉X.fs:=fun hb=>by
 obtain ⟨_,o,ho,_⟩:=I.ok.funs.mem hb
 exact absurd (Nat.lt_of_lt_of_le (Heap.lt_size ho) (Nat.le_trans I.sz h)) (Nat.lt_irrefl _)
theorem Ap.cne (I:Ap X pins σ H s):∀x c,X.env.cells.lookup x=some c→c≠X.env.locals:=fun x c e z=>by
 obtain ⟨v,o,ho,hd⟩:=I.cell x c e
 obtain ⟨m,⟨o',es,ep,ho',hd',_⟩,_⟩:=I.loc
 rw [z,ho'] at ho;cases ho;rw [hd'] at hd;cases hd
theorem Ap.funs (I:Ap X pins σ H s):s.heap.FunFrames X.base X.outer:=by
 have all:∀(l:List Env),(∀b∈Ie l,b∈X.fs)→X.s₀.heap.FunFrames X.base l→s.heap.FunFrames X.base l:=by
  intro l
  induction l with
  |nil=>intro _ _;trivial
  |cons env r ih=>
   intro hs hl
   obtain ⟨hk,⟨L,o,hf,hn,ho,hd⟩,hr⟩:=hl
   have hL:L∈X.fs:=hs L (by unfold Ie;rw [List.filterMap_cons,hf];exact List.mem_cons_self)
   obtain ⟨sl,e⟩:=I.base.slot L o ho (I.ok.frf L hL) hL fun z=>I.ok.exfs L z hL
   exact ⟨hk,⟨L,_,hf,hn,e,hd⟩,ih (fun b hb=>hs b (by unfold Ie;rw [List.filterMap_cons,hf];exact List.mem_cons_of_mem _ hb)) hr⟩
 exact all X.outer (fun _ hb=>hb) I.ok.funs
theorem Ap.stack (I:Ap X pins σ H s):s.heap.FunFrames X.base X.stack:=by
 rcases I.ok.stk with e|⟨e,hf⟩
 ·rw [e];exact I.funs
 ·rw [e]
  obtain ⟨m,hn,_⟩:=I.loc
  refine .cons (by rw [I.ok.kind];decide) hf hn ?_ I.funs
  exact Heap.get?_none_of_le (Nat.le_trans I.ok.bsz I.ok.above)
theorem Ap.stkSub (I:Ap X pins σ H s):∀b∈Ie X.stack,b∈X.env.locals::X.fs:=fun b hb=>by
 rcases I.ok.stk with e|⟨e,hf⟩
 ·rw [e] at hb;exact List.mem_cons_of_mem _ hb
 ·rw [e] at hb
  unfold Ie at hb
  rw [List.filterMap_cons,hf] at hb
  exact hb
theorem Ap.stkFree (I:Ap X pins σ H s):∀b∈Ie X.stack,H b=none:=fun b hb=>by
 rcases List.mem_cons.mp (I.stkSub b hb) with e|hb
 ·rw [e];exact I.free
 ·obtain ⟨_,o,ho,_⟩:=I.ok.funs.mem hb
  exact I.base.free b o ho (I.ok.frf b hb) fun z=>I.ok.exfs b z hb
theorem Ap.step {g':Array GenState}{t':Nat}{d':Drawn}{ch:List Addr}(I:Ap X pins σ H s)
  (hch:∀b∈ch,(b∈X.ex∨X.s₀.heap.objs.size≤b)∧b≠X.env.locals∧(∀x c,X.env.cells.lookup x=some c→c≠b)∧∀p∈X.pn++pins,p.1≠b)
  (keep:∀b o,b≠X.env.locals→b∉X.fs→b∉ch→s.heap.get? b=some o→H b=none→h'.get? b=some o)
  (slot:∀b o,b≠X.env.locals→b∈X.fs→b∉ch→s.heap.get? b=some o→H b=none→∃sl,h'.get? b=some { o with slots:=sl }) (free:∀b o,b∉ch→s.heap.get? b=some o→H b=none→H' b=none)
  (there:∀b o,b∉ch→s.heap.get? b=some o→∃o',h'.get? b=some o')
  (tups:∀b xs,H b=some (.tup xs)→H' b=some (.tup xs)) (frzs:∀b o u,H b=some (.frz o u)→H' b=some (.frz o u)) (tbls:∀b ps,H b=some (.tbl ps)→∃more,H' b=some (.tbl (ps++more)))
  (ns:∀m,s.heap.Ns X.env.locals m→h'.Ns X.env.locals m) (hok:G9 X.prog X.w H' h') (hg:AllBare g') :
  Ap X pins σ H' { s with heap:=h',gens:=g',drawn:=d',toks:=t' }:=by
 have neL:∀b o,X.s₀.heap.get? b=some o→b≠X.env.locals:=fun b o e=>Nat.ne_of_lt (Nat.lt_of_lt_of_le (Heap.lt_size e) I.ok.above)
 have neC:∀b o,X.s₀.heap.get? b=some o→b∉X.ex→b∉ch:=fun b o e hx hb=>by
  rcases (hch b hb).1 with z|z
  ·exact hx z
  ·exact absurd (Nat.lt_of_lt_of_le (Heap.lt_size e) z) (Nat.lt_irrefl _)
 have cellK:∀x c,X.env.cells.lookup x=some c→∀v,s.heap.IsCell c v→h'.IsCell c v:=fun x c e v ⟨o,ho,hd⟩=>by
  have nch:c∉ch:=fun z=>(hch c z).2.2.1 x c e rfl
  by_cases hc:c∈X.fs
  ·obtain ⟨sl,q⟩:=slot c o (I.cne x c e) hc nch ho (I.freeC x c e)
   exact ⟨_,q,hd⟩
  ·exact ⟨o,keep c o (I.cne x c e) hc nch ho (I.freeC x c e),hd⟩
 refine ⟨I.ok,I.os,hg,⟨fun b o e n hb hx=>?_,fun b o e n hb hx=>?_,fun b o e n hx=>?_,fun b o e hx=>?_,fun b xs e=>tups b xs (I.base.tups b xs e),fun b o xs e=>frzs b o xs (I.base.frzs b o xs e),fun b ps e=>?_⟩,?_,fun x c e=>?_,?_,fun x c e=>?_,fun p hp=>?_,hok,I.len⟩
 ·exact keep b o (neL b o e) hb (neC b o e hx) (I.base.keep b o e n hb hx) (I.base.free b o e n hx)
 ·obtain ⟨sl,e1⟩:=I.base.slot b o e n hb hx
  obtain ⟨sl',e2⟩:=slot b _ (neL b o e) hb (neC b o e hx) e1 (I.base.free b o e n hx)
  exact ⟨sl',e2⟩
 ·obtain ⟨o',e1⟩:=I.base.there b o e hx
  exact free b o' (neC b o e hx) e1 (I.base.free b o e n hx)
 ·obtain ⟨o',e1⟩:=I.base.there b o e hx
  exact there b o' (neC b o e hx) e1
 ·obtain ⟨m1,e1⟩:=I.base.tbls b ps e
  obtain ⟨m2,e2⟩:=tbls b _ e1
  exact ⟨m1++m2,by rw [e2,Array.append_assoc]⟩
 ·obtain ⟨m,hn,hl⟩:=I.loc
  refine ⟨m,ns m hn,fun i x v e1 e2 e3=>?_⟩
  obtain ⟨u,r,l⟩:=hl i x v e1 e2 e3
  refine ⟨u,r,?_⟩
  rcases l with l|⟨k,c,e,z⟩
  ·exact .inl l
  ·exact .inr ⟨k,c,e,cellK x c e _ z⟩
 ·obtain ⟨v,z⟩:=I.cell x c e
  exact ⟨v,cellK x c e v z⟩
 ·obtain ⟨m,⟨o,_,_,ho,_⟩,_⟩:=I.loc
  exact free _ o (fun z=>(hch _ z).2.1 rfl) ho I.free
 ·obtain ⟨v,o,ho,hd⟩:=I.cell x c e
  exact free c o (fun z=>(hch c z).2.2.1 x c e rfl) ho (I.freeC x c e)
 ·obtain ⟨e,n,ne,nf,d⟩:=I.pin p hp
  have nch:p.1∉ch:=fun z=>(hch p.1 z).2.2.2 p hp rfl
  exact ⟨keep p.1 p.2 ne nf nch e n,free p.1 p.2 nch e n,ne,nf,d⟩
theorem Ap.un {t':Nat}(I:Ap X pins σ H s)(u:Un X.fs [] H H' s.heap h')(hok:G9 X.prog X.w H' h'):Ap X pins σ H' { s with heap:=h',toks:=t' }:=by
 obtain ⟨m,⟨o,es,ep,ho,r⟩,_⟩:=id I.loc
 obtain ⟨sl,hL⟩:=u.any ho I.free (by simp)
 exact I.step (g':=s.gens) (d':=s.drawn) (ch:=[]) (fun _ z=>nomatch z) (fun b o _ hb _ e n=>u.keep b o e n hb (by simp)) (fun b o _ hb _ e n=>u.slot b o e n hb (by simp)) (fun b o _ e n=>u.free b o e n (by simp)) (fun b o _ e=>u.there b o e (by simp)) u.tups u.frzs u.tbls (fun m' hm=>by
  obtain ⟨o',es',ep',ho',r'⟩:=hm
  rw [ho] at ho';cases ho'
  exact ⟨_,es',ep',hL,r'⟩) hok I.bare
theorem Ap.call {g':Array GenState}{t':Nat}{d':Drawn}{ch:List Addr}(I:Ap X pins σ H s)(u:Un (Ie X.stack) ch H H' s.heap h')(hok:G9 X.prog X.w H' h')(hg:AllBare g')
  (hch:∀b∈ch,(b∈X.ex∨X.s₀.heap.objs.size≤b)∧b≠X.env.locals∧(∀x c,X.env.cells.lookup x=some c→c≠b)∧∀p∈X.pn++pins,p.1≠b) :
  Ap X pins σ H' { s with heap:=h',gens:=g',drawn:=d',toks:=t' }:=by
 obtain ⟨m,⟨o,es,ep,ho,r⟩,_⟩:=id I.loc
 obtain ⟨sl,hL⟩:=u.any ho I.free fun z=>(hch _ z).2.1 rfl
 exact I.step (ch:=ch) hch (fun b o hL hb hc e n=>u.keep b o e n (fun z=>(List.mem_cons.mp (I.stkSub b z)).elim hL hb) hc) (fun b o _ _ hc e n=>u.any e n hc) (fun b o hc e n=>u.free b o e n hc) (fun b o hc e=>u.there b o e hc) u.tups u.frzs u.tbls (fun m' hm=>by
  obtain ⟨o',es',ep',ho',r'⟩:=hm
  rw [ho] at ho';cases ho'
  exact ⟨_,es',ep',hL,r'⟩) hok hg
theorem Ap.turned {t':Nat}{it:Addr}(I:Ap X pins σ H s)(k:∀b o,b≠it→s.heap.get? b=some o→h'.get? b=some o)(hn:H it=none)(hL:it≠X.env.locals)
  (h1:it∈X.ex∨X.s₀.heap.objs.size≤it) (h2:∀x c,X.env.cells.lookup x=some c→c≠it) (h3:∀p∈X.pn++pins,p.1≠it):Ap X pins σ H { s with heap:=h',toks:=t' }:=by
 have nit:∀b u,H b=some u→b≠it:=fun b u e z=>by rw [z,hn] at e;cases e
 refine I.step (g':=s.gens) (d':=s.drawn) (ch:=[it]) (fun b hb=>?_) (fun b o _ _ hc e _=>k b o (fun z=>hc (by simp [z])) e) (fun b o _ _ hc e _=>⟨o.slots,k b o (fun z=>hc (by simp [z])) e⟩) (fun _ _ _ _ n=>n)
  (fun b o hc e=>⟨o,k b o (fun z=>hc (by simp [z])) e⟩) (fun _ _ e=>e) (fun _ _ _ e=>e) (fun b ps e=>⟨#[],by rw [e];simp⟩) (fun m hm=>?_) (fun b u e=>?_) I.bare
 ·have e:b=it:=by simpa using hb
  subst e
  exact ⟨h1,hL,h2,h3⟩
 ·obtain ⟨o,es,ep,ho,r⟩:=hm
  exact ⟨o,es,ep,k _ o (Ne.symm hL) ho,r⟩
 ·refine (I.hok b u e).stay (fun c v hc q=>k c v ?_ q) (fun _ q=>q) fun _ _ q=>q
  rcases hc with z|z
  ·rw [z];exact nit b u e
  ·exact nit c _ z
theorem Ap.tok (I:Ap X pins σ H s)(t:Nat):Ap X pins σ H { s with toks:=t }:=I.un (h':=s.heap) (t':=t) Un.refl I.hok
theorem Ap.kept {t':Nat}(I:Ap X pins σ H s)(k:∀b u,s.heap.get? b=some u→h'.get? b=some u):Ap X pins σ H { s with heap:=h',toks:=t' }:=I.un (Un.kept k) (I.hok.kept k)
theorem Ap.laid {a:Addr}{o:HO}{t':Nat}(I:Ap X pins σ H s)(k:∀b u,s.heap.get? b=some u→h'.get? b=some u)(hp:s.heap.objs.size≤a)(new:A4 X.prog X.w (upd H a o) h' a o) :
  Ap X pins σ (upd H a o) { s with heap:=h',toks:=t' }:=I.un (Un.laid k hp (I.hok.fresh hp)) (I.hok.laid k hp new)
theorem Ap.write {x e:Addr}{o:HO}{t':Nat}(I:Ap X pins σ H s)(mu:Mut (H x))(he:e=x∨H e=some (.own x))(k:∀b u,b≠e→s.heap.get? b=some u→h'.get? b=some u)(heo:∃u,h'.get? e=some u)
  (new:A4 X.prog X.w (upd H x o) h' x o):Ap X pins σ (upd H x o) { s with heap:=h',toks:=t' }:=I.un (Un.write mu he k heo) (I.hok.write mu he k heo new)
theorem Ap.weak {σ':List (Option V)}(I:Ap X pins σ H s)(hl:σ'.length=σ.length)(w:∀(i:Nat) v,σ'[i]? =some (some v)→σ[i]? =some (some v)):Ap X pins σ' H s:=
 ⟨I.ok,I.os,I.bare,I.base,let ⟨m,hn,hl'⟩:=I.loc;⟨m,hn,fun i x v e1 e2 e3=>hl' i x v e1 (w i v e2) e3⟩,I.cell,I.free,I.freeC,I.pin,I.hok,hl.trans I.len⟩
theorem Ap.pins_of {pins':List (Addr×Obj)}(I:Ap X pins σ H s)(h:∀p∈pins',s.heap.get? p.1=some p.2∧H p.1=none∧p.1≠X.env.locals∧p.1∉X.fs∧∀v,p.2.data≠.cell v):Ap X pins' σ H s:=
 ⟨I.ok,I.os,I.bare,I.base,I.loc,I.cell,I.free,I.freeC,fun p hp=>(List.mem_append.mp hp).elim (fun z=>I.pin p (List.mem_append_left _ z)) (h p),I.hok,I.len⟩
theorem Md {N:List Str}(hN:N.Nodup){i j:Nat}{x:Str}(a:N[i]? =some x)(b:N[j]? =some x):i=j:=by
 obtain ⟨h1,e1⟩:=List.getElem?_eq_some_iff.mp a
 obtain ⟨h2,e2⟩:=List.getElem?_eq_some_iff.mp b
 exact (List.getElem_inj hN).mp (e1.trans e2.symm)
theorem Nw {M:Model}{A:Around}{E:Value→Shared→Prop}{i:Nat}{x:Str}{v:V}{u:Value}{Q:Unit→Shared→Prop}(I:Ap X pins σ H s)(hN:X.N.Nodup)(hi:X.N[i]? =some x)(hx:Loc X.env.scope x)(r:RelV v u)
  (h:∀s',Ap X pins (σ.set i (some v)) H s'→(∃a,Heap.SameBut a s.heap s'.heap∧(a=X.env.locals∨X.env.cells.lookup x=some a))→Q () s') (hf:X.fn x=true∨X.env.scope.names.lookup x=some .local:=by first|exact .inl rfl|exact .inr rfl|assumption):wpAny M A (storeName X.env x u) Q E s:=by
 obtain ⟨m,hn,hl⟩:=id I.loc
 have hcls:(X.env.scope.kind==.class||(X.env.scope.kind==.module&&X.env.locals != X.env.globals))=false:=by rw [I.ok.kind];rfl
 have hiσ:i<σ.length:=by rw [I.len];exact (List.getElem?_eq_some_iff.mp hi).1
 have cne:=I.cne
 have tracked:∀{a:Addr} {h':Heap},(∃o,s.heap.get? a=some o∧H a=none)→Heap.SameBut a s.heap h'→G9 X.prog X.w H h':=fun {a h'} ha hs b ob e=>by
  obtain ⟨_,_,hfree⟩:=ha
  refine (I.hok b ob e).stay (fun c w' hc q=>(hs.2 c ?_).trans q) (fun _ q=>q) fun _ _ q=>q
  rintro rfl
  rcases hc with rfl|hc
  ·rw [hfree] at e;cases e
  ·rw [hfree] at hc;cases hc
 rcases hx with hk|hk
 ·refine wpAny_storeName_local hk hn (fun h' hn' hs=>?_) hcls
  obtain ⟨oL,_,_,hoL,_⟩:=id hn
  refine h _ ⟨I.ok,I.os,I.bare,⟨fun b o e n hb hx=>?_,fun b o e n hb hx=>?_,I.base.free,fun b o e hx=>?_,I.base.tups,I.base.frzs,I.base.tbls⟩,⟨_,hn',fun j y v' e1 e2 e3=>?_⟩,fun y c e=>?_,I.free,I.freeC,fun p hp=>?_,tracked ⟨oL,hoL,I.free⟩ hs,by simpa using I.len⟩ ⟨_,hs,.inl rfl⟩
  ·exact (hs.2 b (Nat.ne_of_lt (Nat.lt_of_lt_of_le (Heap.lt_size e) I.ok.above))).trans (I.base.keep b o e n hb hx)
  ·obtain ⟨sl,e1⟩:=I.base.slot b o e n hb hx
   exact ⟨sl,(hs.2 b (Nat.ne_of_lt (Nat.lt_of_lt_of_le (Heap.lt_size e) I.ok.above))).trans e1⟩
  ·obtain ⟨o',e1⟩:=I.base.there b o e hx
   exact ⟨o',(hs.2 b (Nat.ne_of_lt (Nat.lt_of_lt_of_le (Heap.lt_size e) I.ok.above))).trans e1⟩
  ·by_cases hj:j=i
   ·subst hj
    rw [hi] at e1;cases e1
    rw [List.getElem?_set_self hiσ] at e2
    cases e2
    exact ⟨u,r,.inl ⟨hk,by simp⟩⟩
   ·rw [List.getElem?_set_ne (Ne.symm hj)] at e2
    obtain ⟨u',r',q⟩:=hl j y v' e1 e2 e3
    refine ⟨u',r',?_⟩
    rcases q with ⟨k,e⟩|⟨k,c,e,z⟩
    ·refine .inl ⟨k,?_⟩
     have:y≠x:=fun e=>hj (Md hN e1 (e▸hi))
     simp [this,e]
    ·exact .inr ⟨k,c,e,z.sameBut hs (cne y c e)⟩
  ·obtain ⟨w',z⟩:=I.cell y c e
   exact ⟨w',z.sameBut hs (cne y c e)⟩
  ·obtain ⟨e,n,ne,nf,d⟩:=I.pin p hp
   exact ⟨(hs.2 p.1 ne).trans e,n,ne,nf,d⟩
 ·have hfn:X.fn x=true:=by
   rcases hf with z|z
   ·exact z
   ·rw [z] at hk;cases hk
  obtain ⟨c,hc⟩:=I.ok.has x (.inl hk)
  obtain ⟨w',z⟩:=I.cell x c hc
  refine wpAny_storeName_cell I.ok.kind hk hc z (fun h' hc' hs=>?_)
  obtain ⟨oc,hoc,hocd⟩:=id z
  refine h { s with heap:=h' } ⟨I.ok,I.os,I.bare,⟨fun b o e n hb hx=>?_,fun b o e n hb hx=>?_,I.base.free,fun b o e hx=>?_,I.base.tups,I.base.frzs,I.base.tbls⟩,⟨m,hn.sameBut hs (Ne.symm (cne x c hc)),fun j y v' e1 e2 e3=>?_⟩,fun y c' e=>?_,I.free,I.freeC,fun p hp=>?_,tracked ⟨oc,hoc,I.freeC x c hc⟩ hs,by simpa using I.len⟩ ⟨c,hs,.inr hc⟩
  ·exact (hs.2 b (Nat.ne_of_lt (Nat.lt_of_lt_of_le (Heap.lt_size e) (I.ok.cab x c hfn hc)))).trans (I.base.keep b o e n hb hx)
  ·obtain ⟨sl,e1⟩:=I.base.slot b o e n hb hx
   exact ⟨sl,(hs.2 b (Nat.ne_of_lt (Nat.lt_of_lt_of_le (Heap.lt_size e) (I.ok.cab x c hfn hc)))).trans e1⟩
  ·obtain ⟨o',e1⟩:=I.base.there b o e hx
   exact ⟨o',(hs.2 b (Nat.ne_of_lt (Nat.lt_of_lt_of_le (Heap.lt_size e) (I.ok.cab x c hfn hc)))).trans e1⟩
  ·by_cases hj:j=i
   ·subst hj
    rw [hi] at e1;cases e1
    rw [List.getElem?_set_self hiσ] at e2
    cases e2
    exact ⟨u,r,.inr ⟨.inl hk,c,hc,hc'⟩⟩
   ·rw [List.getElem?_set_ne (Ne.symm hj)] at e2
    obtain ⟨u',r',q⟩:=hl j y v' e1 e2 e3
    refine ⟨u',r',?_⟩
    rcases q with q|⟨k,c',e,z'⟩
    ·exact .inl q
    ·refine .inr ⟨k,c',e,z'.sameBut hs ?_⟩
     rintro rfl
     exact hj (Md hN e1 (I.ok.inj _ _ _ e hc▸hi))
  ·by_cases hcc:c'=c
   ·subst hcc;exact ⟨_,hc'⟩
   ·obtain ⟨w2,z2⟩:=I.cell y c' e
    exact ⟨w2,z2.sameBut hs hcc⟩
  ·obtain ⟨e,n,ne,nf,d⟩:=I.pin p hp
   refine ⟨(hs.2 p.1 ?_).trans e,n,ne,nf,d⟩
   intro q
   rw [q,hoc] at e
   have q':oc=p.2:=Option.some.inj e
   exact d w' (by rw [←q'];exact hocd)
theorem Ig {M:Model}{A:Around}{E:Value→Shared→Prop}{i:Nat}{x:Str}{v:V}{u:Value}{Q:Unit→Shared→Prop}(I:Ap X pins σ H s)(hN:X.N.Nodup)(hi:X.N[i]? =some x)(hx:Loc X.env.scope x)(r:RelV v u)
  (h:∀s',Ap X pins (σ.set i (some v)) H s'→Q () s') (hf:X.fn x=true∨X.env.scope.names.lookup x=some .local:=by first|exact .inl rfl|exact .inr rfl|assumption):wpAny M A (storeName X.env x u) Q E s:=
 Nw I hN hi hx r (fun s' I' _=>h s' I') hf
theorem Ap.call' {s':Shared}{ch:List Addr}(I:Ap X pins σ H s)(ho:s'.os=s.os)(u:Un (Ie X.stack) ch H H' s.heap s'.heap)(hok:G9 X.prog X.w H' s'.heap)(hg:AllBare s'.gens)
  (hch:∀b∈ch,(b∈X.ex∨X.s₀.heap.objs.size≤b)∧b≠X.env.locals∧(∀x c,X.env.cells.lookup x=some c→c≠b)∧∀p∈X.pn++pins,p.1≠b):Ap X pins σ H' s':=by
 obtain ⟨h',g',d',t',o'⟩:=s'
 have e:o'=s.os:=ho
 subst e
 exact I.call (g':=g') (t':=t') (d':=d') u hok hg hch
end
abbrev XK:=Value→Option Addr→Hp→Prop
abbrev St:=List (Option V)
abbrev VK:=V→Hp→Prop
abbrev TE:=St→Hp→VK→Prop
abbrev TT:=St→Hp→(Bool→Hp→Prop)→Prop
abbrev TA:=St→Hp→(List V→Hp→Prop)→Prop
structure Nq where
 nx:St→Hp→Prop
 rt:VK
 bk:St→Hp→Prop:=fun _ _=>False
 ct:St→Hp→Prop:=fun _ _=>False
abbrev TS:=Nq→St→Hp→Prop
def EP (X:Cx)(pins:List (Addr×Obj))(σ:St)(Q:VK)(u:Value)(s':Shared):Prop:=∃v H',Ap X pins σ H' s'∧RelV v u∧Q v H'
def TP (X:Cx)(pins:List (Addr×Obj))(σ:St)(Q:Bool→Hp→Prop)(b:Bool)(s':Shared):Prop:=∃H',Ap X pins σ H' s'∧Q b H'
def AP (X:Cx)(pins:List (Addr×Obj))(σ:St)(Q:List V→Hp→Prop)(us:List Value)(s':Shared):Prop:=∃vs H',Ap X pins σ H' s'∧Az vs us∧Q vs H'
def SP (X:Cx)(pins:List (Addr×Obj))(D:Nq)(f:Flow)(s':Shared):Prop:=
 match f with
 |.next=>∃σ' H',Ap X pins σ' H' s'∧D.nx σ' H'
 |.brk=>∃σ' H',Ap X pins σ' H' s'∧D.bk σ' H'
 |.cont=>∃σ' H',Ap X pins σ' H' s'∧D.ct σ' H'
 |.ret u=>∃v σ' H',Ap X pins σ' H' s'∧RelV v u∧D.rt v H'
def PE (X:Cx)(e:Expr)(t:TE):Prop:=
 ∀(pins:List (Addr×Obj)) (s:Shared) (σ:St) (H:Hp) (Q:VK),Ap X pins σ H s→t σ H Q→wpAny (model X.prog X.w) X.A (eval e X.env) (EP X pins σ Q) X.xe s
def PT (X:Cx)(e:Expr)(t:TT):Prop:=
 ∀(pins:List (Addr×Obj)) (s:Shared) (σ:St) (H:Hp) (Q:Bool→Hp→Prop),Ap X pins σ H s→t σ H Q→wpAny (model X.prog X.w) X.A (isTrue e X.env (eval e X.env)) (TP X pins σ Q) X.xe s
def PW (X:Cx)(e:Expr)(t:TT):Prop:=
 ∀(whole:Sem Value) (pins:List (Addr×Obj)) (s:Shared) (σ:St) (H:Hp) (Q:Bool→Hp→Prop),Ap X pins σ H s→t σ H Q→wpAny (model X.prog X.w) X.A (isTrue e X.env whole) (TP X pins σ Q) X.xe s
theorem PW.pt {X:Cx}{e:Expr}{t:TT}(h:PW X e t):PT X e t:=h _
def PA (X:Cx)(es:List Expr)(t:TA):Prop:=
 ∀(pos:Pos) (pins:List (Addr×Obj)) (s:Shared) (σ:St) (H:Hp) (Q:List V→Hp→Prop),Ap X pins σ H s→t σ H Q→wpAny (model X.prog X.w) X.A (spliced (backTo pos (starEach es X.env))) (AP X pins σ Q) X.xe s
def PS (X:Cx)(st:Stmt)(t:TS):Prop:=
 ∀(pins:List (Addr×Obj)) (s:Shared) (σ:St) (H:Hp) (D:Nq),Ap X pins σ H s→t D σ H→wpAny (model X.prog X.w) X.A (exec st X.env) (SP X pins D) X.xe s
def Ko (X:Cx)(st:List Stmt)(t:TS):Prop:=
 ∀(pins:List (Addr×Obj)) (s:Shared) (σ:St) (H:Hp) (D:Nq),Ap X pins σ H s→t D σ H→wpAny (model X.prog X.w) X.A (execs st X.env) (SP X pins D) X.xe s
theorem Ba {α:Type}{t:Sem α}{Q Q':α→Shared→Prop}{M:Model}{A:Around}{E:Value→Shared→Prop}{s:Shared}(h:wpAny M A t Q E s)(hQ:∀a s,Q a s→Q' a s):wpAny M A t Q' E s:=wpAny_mono h hQ fun _ _ x=>x
end L2
namespace L2
open PySem PySem.Spec PyProof.Rows
section
variable {X:Cx}
def Afi (i:Nat):TE:=fun σ H Q=>∃v,σ[i]? =some (some v)∧Q v H
def tC (v:V):TE:=fun _ H Q=>Q v H
theorem Aes {i:Nat}{x:Str}{pos:Pos}(hN:X.N[i]? =some x)(hv:Vis X.env.scope x)(hd:(x==("__debug__":Str))=false:=by decide)(hcd:(x==("__classdict__":Str))=false:=by decide):PE X (.Name x pos) (Afi i):=by
 intro pins s σ H Q I h
 obtain ⟨v,e,h⟩:=h
 obtain ⟨m,hn,hl⟩:=I.loc
 obtain ⟨u,r,l⟩:=hl i x v hN e hv
 have fin:EP X pins σ Q u s:=⟨v,H,I,r,h⟩
 rcases l with ⟨hk,hm⟩|⟨hk,c,hc,hcell⟩
 ·exact wpAny_Name (wpAny_loadName_local I.ok.kind hk hn hm fin) hd
 ·rcases hk with hk|hk
  ·exact wpAny_Name (wpAny_loadName_cell I.ok.kind hk hc hcell fin) hd
  ·exact wpAny_Name (wpAny_loadName_free I.ok.kind hk hc hcell fin hcd) hd
theorem Ab {i j pos}:PE X (.Constant (.int i) j pos) (tC (.int i)):=fun _ _ _ H _ I h=>wpAny_Constant_int ⟨.int i,H,I.tok _,⟨_,rfl⟩,h⟩
theorem Gx {b j pos}:PE X (.Constant (.bool b) j pos) (tC (.bl b)):=fun _ _ _ H _ I h=>Constant_bool ⟨.bl b,H,I,rfl,h⟩
theorem Afb {j pos}:PE X (.Constant .none j pos) (tC .non):=fun _ _ _ H _ I h=>Constant_none ⟨.non,H,I,rfl,h⟩
theorem C4 {x j pos}:PE X (.Constant (.str x) j pos) (tC (.str x)):=fun _ _ _ H _ I h=>Calls.Constant_str ⟨.str x,H,I.tok _,⟨_,rfl⟩,h⟩
def Gl (X:Cx)(x:Str):Prop:=X.env.kindOf x=some .globalImplicit
theorem Ip {E:Value→Shared→Prop}{pins:List (Addr×Obj)}{s:Shared}{σ:St}{H:Hp}{x:Str}{u:Value}{pos:Pos}{Q:Value→Shared→Prop}(I:Ap X pins σ H s)(hg:Gl X x)(hm:X.mg x=some u)(h:Q u s)
  (hd:(x==("__debug__":Str))=false:=by decide):wpAny (model X.prog X.w) X.A (eval (.Name x pos) X.env) Q E s:=
 Calls.Name_function_global I.ok.kind hg (Calls.loadGlobal_global (by rw [I.ok.glob];exact I.mod.glob.keeps I.bk) hm h) hd
theorem Fr {E:Value→Shared→Prop}{pins:List (Addr×Obj)}{s:Shared}{σ:St}{H:Hp}{x:Str}{u:Value}{pos:Pos}{Q:Value→Shared→Prop}(I:Ap X pins σ H s)(hg:Gl X x)(hm:X.mg x=none)(hv:bootBuiltins x=some u)(h:Q u s)
  (hn:x≠"__name__":=by decide) (hd:(x==("__debug__":Str))=false:=by decide):wpAny (model X.prog X.w) X.A (eval (.Name x pos) X.env) Q E s:=by
 obtain ⟨mb,h1,h2⟩:=I.mod.blt
 exact Calls.Name_function_global I.ok.kind hg (Calls.loadGlobal_builtin (by rw [I.ok.glob];exact I.mod.glob.keeps I.bk) hm (by rw [I.ok.blt];exact h1.keeps I.bk) ((h2 x hn).trans hv) h) hd
theorem Ev {x:Str}{v:V}{u:Value}{pos:Pos}(hg:Gl X x)(hm:X.mg x=some u)(r:RelV v u)(hd:(x==("__debug__":Str))=false:=by decide):PE X (.Name x pos) (tC v):=
 fun _ _ _ H _ I h=>Ip I hg hm ⟨v,H,I,r,h⟩ hd
theorem Aa2 {x:Str}{v:V}{u:Value}{pos:Pos}(hg:Gl X x)(hm:X.mg x=none)(hv:bootBuiltins x=some u)(r:RelV v u)(hn:x≠"__name__":=by decide)(hd:(x==("__debug__":Str))=false:=by decide):PE X (.Name x pos) (tC v):=
 fun _ _ _ H _ I h=>Fr I hg hm hv ⟨v,H,I,r,h⟩ hn hd
variable {a b:Expr}{ta tb:TE}{pos:Pos}
def PC (X:Cx)(op:CmpOp)(a b:Expr)(t:TE):Prop:=
 ∀(pins:List (Addr×Obj)) (s:Shared) (σ:St) (H:Hp) (Q:VK),Ap X pins σ H s→t σ H Q →
  wpAny (model X.prog X.w) X.A (eval a X.env) (fun v s₁=>wpAny (model X.prog X.w) X.A (eval b X.env) (fun u s₂=>wpAny (model X.prog X.w) X.A (compareOp op v u) (EP X pins σ Q) X.xe s₂) X.xe s₁) X.xe s
def tB (t:TE):TT:=fun σ H Q=>t σ H fun x H1=>∃c,x=.bl c∧Q c H1
theorem Zf {op:CmpOp}{t:TE}(h:PC X op a b t)(h1:behindInMarks op b=false:=by first|exact nobehind _ (by decide) (by decide)|rfl):PT X (.Compare a [op] [b] pos) (tB t):=by
 intro pins s σ H Q I hw
 refine wpAny_isTrue_Compare1 (Ba (h pins s σ H _ I hw) fun v s1 h1=>Ba h1 fun u s2 h2=>Ba h2 fun c s3 ⟨x,H1,I1,r1,q1⟩=>?_) h1
 obtain ⟨d,rfl,q⟩:=q1
 cases r1
 exact wpAny_truthy_bool ⟨H1,I1,q⟩
theorem Aeq {e:Expr}{t:TE}(h:PE X e t)(he:∀whole,isTrue e X.env whole=(do let v ←whole;standAt e.pos;holding [v] (truthy v)):=by intro _;rfl):PT X e (tB t):=by
 intro pins s σ H Q I hw
 refine isTrue_plain (Ba (h pins s σ H _ I hw) fun v s1 ⟨x,H1,I1,r1,q1⟩=>?_) (he _)
 obtain ⟨d,rfl,q⟩:=q1
 cases r1
 exact wpAny_truthy_bool ⟨H1,I1,q⟩
variable {tA tB':TT}{Ef:List Expr}
def Adx (t u:TT):TT:=fun σ H Q=>t σ H fun c H1=>if c=true then u σ H1 Q else Q false H1
def tOr (t u:TT):TT:=fun σ H Q=>t σ H fun c H1=>if c=true then Q true H1 else u σ H1 Q
def Akd (t:TT):TT:=fun σ H Q=>t σ H fun c H1=>Q (!c) H1
theorem Abm (ha:PT X a tA):PW X (.BoolOp .And [a] pos) tA:=by
 intro wh pins s σ H Q I h
 refine isTrue_and (Ba (ha pins s σ H Q I h) fun c s1 e=>?_)
 cases c with
 |true=>exact isTrue_and_nil e
 |false=>exact e
theorem Ls (ha:PT X a tA):PW X (.BoolOp .Or [a] pos) tA:=by
 intro wh pins s σ H Q I h
 refine isTrue_or (Ba (ha pins s σ H Q I h) fun c s1 e=>?_)
 cases c with
 |false=>exact isTrue_or_nil e
 |true=>exact e
theorem Af1 (ha:PT X a tA)(hb:PW X (.BoolOp .And (b::Ef) pos) tB'):PW X (.BoolOp .And (a::b::Ef) pos) (Adx tA tB'):=by
 intro wh pins s σ H Q I h
 refine isTrue_and (Ba (ha pins s σ H _ I h) fun c s1 ⟨H1,I1,q1⟩=>?_)
 cases c with
 |true=>exact hb wh pins s1 σ H1 Q I1 q1
 |false=>exact ⟨H1,I1,q1⟩
theorem Aib (ha:PT X a tA)(hb:PW X (.BoolOp .Or (b::Ef) pos) tB'):PW X (.BoolOp .Or (a::b::Ef) pos) (tOr tA tB'):=by
 intro wh pins s σ H Q I h
 refine isTrue_or (Ba (ha pins s σ H _ I h) fun c s1 ⟨H1,I1,q1⟩=>?_)
 cases c with
 |true=>exact ⟨H1,I1,q1⟩
 |false=>exact hb wh pins s1 σ H1 Q I1 q1
theorem Cz (ha:PT X a tA):PT X (.UnaryOp .Not a pos) (Akd tA):=by
 intro pins s σ H Q I h
 exact isTrue_not (ha pins s σ H (fun c H1=>Q (!c) H1) I h)
def Y0 (ta tb:TE):TE:=fun σ H Q=>ta σ H fun x H1=>∃c,x=.bl c∧if c=true then tb σ H1 Q else Q (.bl false) H1
def Yw (ta:TE):TE:=fun σ H Q=>ta σ H fun x H1=>∃c,x=.bl c∧Q (.bl (!c)) H1
theorem Ia {op}{t:TE}(h:PE X a t):PE X (.BoolOp op [a] pos) t:=fun pins s σ H Q I hw=>BoolOp_one (h pins s σ H Q I hw)
theorem Agv (ha:PE X a ta)(hb:PE X (.BoolOp .And (b::Ef) pos) tb):PE X (.BoolOp .And (a::b::Ef) pos) (Y0 ta tb):=by
 intro pins s σ H Q I h
 refine BoolOp_and (Ba (ha pins s σ H _ I h) fun v s1 ⟨x,H1,I1,r1,q1⟩=>?_)
 obtain ⟨c,rfl,q1⟩:=q1
 cases r1
 refine wpAny_truthy_bool ?_
 cases c with
 |true=>exact hb pins s1 σ H1 Q I1 q1
 |false=>exact ⟨.bl false,H1,I1,rfl,q1⟩
theorem Afa (ha:PE X a ta):PE X (.UnaryOp .Not a pos) (Yw ta):=by
 intro pins s σ H Q I h
 refine UnaryOp_ (Ba (ha pins s σ H _ I h) fun v s1 ⟨x,H1,I1,r1,q1⟩=>?_)
 obtain ⟨c,rfl,q1⟩:=q1
 cases r1
 exact not_of (wpAny_truthy_bool ⟨.bl (!c),H1,I1,rfl,q1⟩)
def tIf (t:TT)(ta tb:TE):TE:=fun σ H Q=>t σ H fun c H1=>if c=true then ta σ H1 Q else tb σ H1 Q
theorem Z9 {c:Expr}(hc:PT X c tA)(ha:PE X a ta)(hb:PE X b tb):PE X (.IfExp c a b pos) (tIf tA ta tb):=by
 intro pins s σ H Q I h
 refine wpAny_IfExp (Ba (hc pins s σ H _ I h) fun d s1 ⟨H1,I1,q1⟩=>?_)
 cases d with
 |true=>exact ha pins s1 σ H1 Q I1 q1
 |false=>exact hb pins s1 σ H1 Q I1 q1
end
end L2
namespace L2
open PySem PySem.Spec PyProof.Rows
def A0 (K:PySem.W.Frag)(H:Hp)(a:Addr)(xs:List V):Prop:=
 Rd H a (.lst xs) ∨
  ∃(o:Obj) (its:Array Value) (n:Nat),K.lookup a=some o∧o.cls=.type "list"∧o.dict=none∧o.data=.seq its n∧its.size≤sizeLine∧Az xs its.toList
def Ed (K:PySem.W.Frag)(H:Hp)(a:Addr)(xs:List V):Prop:=
 Rd H a (.tup xs) ∨
  ∃(o:Obj) (its:Array Value) (n:Nat),K.lookup a=some o∧o.cls=.type "tuple"∧o.data=.seq its n∧its.size≤sizeLine∧Az xs its.toList
def Aj7:Value→Option V
 |.none=>some .non
 |.bool b=>some (.bl b)
 |.int i _=>some (.int i)
 |.str x _=>some (.str x)
 |.bytes b _=>some (.byt b)
 |.float b _=>some (.flt b)
 |.ref a=>some (.ref a)
 |.type n=>some (.ty n)
 |_=>none
theorem RelV.abs {x:V}{u:Value}(r:RelV x u):Aj7 u=some x:=by
 cases x with
 |non=>cases r;rfl
 |bl _=>cases r;rfl
 |int _=>obtain ⟨t,rfl⟩:=r;rfl
 |str _=>obtain ⟨t,rfl⟩:=r;rfl
 |byt _=>obtain ⟨t,rfl⟩:=r;rfl
 |flt _=>obtain ⟨t,rfl⟩:=r;rfl
 |ref _=>cases r;rfl
 |ty _=>cases r;rfl
theorem RelV.inj {x y:V}{u:Value}(r:RelV x u)(q:RelV y u):x=y:=Option.some.inj (r.abs.symm.trans q.abs)
theorem Az.inj:∀{xs ys:List V} {us:List Value},Az xs us→Az ys us→xs=ys
 |_,_,_,.nil,.nil=>rfl
 |_,_,_,.cons r t,.cons r' t'=>by rw [r.inj r',Az.inj t t']
section
variable {X:Cx}{pins:List (Addr×Obj)}{σ:St}{H:Hp}{s:Shared}{a:Addr}{xs ys:List V}
theorem A0.of {K:PySem.W.Frag}(h:H a=some (.lst xs)):A0 K H a xs:=.inl (.inl h)
theorem Ed.of {K:PySem.W.Frag}(h:H a=some (.tup xs)):Ed K H a xs:=.inl (.inl h)
theorem Ap.list (I:Ap X pins σ H s)(h:A0 X.K H a xs):∃its:List Value,Az xs its∧PlainL s.heap a its.toArray∧xs.length≤sizeLine:=by
 rcases h with h|⟨o,its,n,hk,hc,hd,hs,hz,r⟩
 ·obtain ⟨z,its,n,r,e⟩:=h.ok I.hok
  exact ⟨its,r,⟨_,n,e,rfl,rfl,rfl⟩,z⟩
 ·refine ⟨its.toList,r,⟨o,n,I.kIn a o hk,hc,hd,by simpa using hs⟩,?_⟩
  have e:=r.length
  simp only [Array.length_toList] at e
  omega
theorem Ap.tuple (I:Ap X pins σ H s)(h:Ed X.K H a xs):∃its:List Value,Az xs its∧IsTup s.heap a its.toArray∧xs.length≤sizeLine:=by
 rcases h with h|⟨o,its,n,hk,hc,hs,hz,r⟩
 ·obtain ⟨z,its,r,p⟩:=h.ok I.hok
  exact ⟨its,r,p,z⟩
 ·refine ⟨its.toList,r,⟨o,I.kIn a o hk,hc,n,by simpa using hs⟩,?_⟩
  have e:=r.length
  simp only [Array.length_toList] at e
  omega
theorem Ap.list_inj (I:Ap X pins σ H s)(h:A0 X.K H a xs)(h':A0 X.K H a ys):xs=ys:=by
 obtain ⟨its,r,⟨o,n,e,_,_,d⟩,_⟩:=I.list h
 obtain ⟨its',r',⟨o',n',e',_,_,d'⟩,_⟩:=I.list h'
 rw [e] at e';cases e'
 rw [d] at d'
 injection d' with d1 _
 have:its=its':=by simpa using congrArg Array.toList d1
 subst this
 exact r.inj r'
theorem Ap.tuple_inj (I:Ap X pins σ H s)(h:Ed X.K H a xs)(h':Ed X.K H a ys):xs=ys:=by
 obtain ⟨its,r,⟨o,e,_,n,d⟩,_⟩:=I.tuple h
 obtain ⟨its',r',⟨o',e',_,n',d'⟩,_⟩:=I.tuple h'
 rw [e] at e';cases e'
 rw [d] at d'
 injection d' with d1 _
 have:its=its':=by simpa using congrArg Array.toList d1
 subst this
 exact r.inj r'
end
abbrev Cx.wish (X:Cx)(E:Value→Shared→Prop):Cx:={ X with xe:=E }
abbrev Cx.nox (X:Cx):Cx:=X.wish fun _ _=>False
theorem Cx.Ok.wish {X:Cx}(ok:X.Ok)(E:Value→Shared→Prop):(X.wish E).Ok:=
 ⟨ok.mod,ok.kind,ok.glob,ok.blt,ok.above,ok.inj,ok.has,ok.cab,ok.hd,ok.frames,ok.stk,ok.exf,ok.bs,ok.bsz,ok.noex,ok.exfs,ok.funs,ok.frf⟩
theorem Cx.Ok.unwish {X:Cx}{E:Value→Shared→Prop}(ok:(X.wish E).Ok):X.Ok:=
 ⟨ok.mod,ok.kind,ok.glob,ok.blt,ok.above,ok.inj,ok.has,ok.cab,ok.hd,ok.frames,ok.stk,ok.exf,ok.bs,ok.bsz,ok.noex,ok.exfs,ok.funs,ok.frf⟩
section
variable {X:Cx}{pins:List (Addr×Obj)}{σ:St}{H:Hp}{s:Shared}{E:Value→Shared→Prop}
theorem Ap.wish (I:Ap X pins σ H s)(E:Value→Shared→Prop):Ap (X.wish E) pins σ H s:=⟨I.ok.wish E,I.os,I.bare,I.base,I.loc,I.cell,I.free,I.freeC,I.pin,I.hok,I.len⟩
theorem Ap.unwish (I:Ap (X.wish E) pins σ H s):Ap X pins σ H s:=⟨I.ok.unwish,I.os,I.bare,I.base,I.loc,I.cell,I.free,I.freeC,I.pin,I.hok,I.len⟩
theorem SP.unwish {D:Nq}{f:Flow}{s':Shared}(h:SP (X.wish E) pins D f s'):SP X pins D f s':=by
 cases f with
 |next=>obtain ⟨σ',H',I,q⟩:=h;exact ⟨σ',H',I.unwish,q⟩
 |brk=>obtain ⟨σ',H',I,q⟩:=h;exact ⟨σ',H',I.unwish,q⟩
 |cont=>obtain ⟨σ',H',I,q⟩:=h;exact ⟨σ',H',I.unwish,q⟩
 |ret u=>obtain ⟨v,σ',H',I,r,q⟩:=h;exact ⟨v,σ',H',I.unwish,r,q⟩
theorem Ko.nox {st:List Stmt}{t:TS}(h:Ko X.nox st t):Ko X st t:=fun pins s σ H D I hw=>
 wpAny_mono (h pins s σ H D (I.wish _) hw) (fun _ _ q=>q.unwish) fun _ _ z=>False.elim z
end
section
variable {X:Cx}{st:Stmt}{Ef:List Stmt}{t u:TS}{e:Expr}{te:TE}{pos:Pos}
def Aiq:TS:=fun D σ H=>D.nx σ H
def Akr (t u:TS):TS:=fun D σ H=>t { D with nx:=u D } σ H
theorem A5:Ko X [] Aiq:=fun _ _ σ H _ I h=>wpAny_execs_nil ⟨σ,H,I,h⟩
theorem Ae (h1:PS X st t)(h2:Ko X Ef u):Ko X (st::Ef) (Akr t u):=by
 intro pins s σ H D I h
 refine wpAny_execs_cons (Ba (h1 pins s σ H { D with nx:=u D } I h) fun f s1 q=>?_)
 cases f with
 |next=>
  obtain ⟨σ',H',I',q⟩:=q
  exact h2 pins s1 σ' H' D I' q
 |ret v=>exact q
 |brk=>exact q
 |cont=>exact q
theorem Af (h1:PS X st t):Ko X [st] t:=by
 intro pins s σ H D I h
 refine wpAny_execs_cons (Ba (h1 pins s σ H D I h) fun f s1 q=>?_)
 cases f with
 |next=>exact wpAny_execs_nil q
 |ret v=>exact q
 |brk=>exact q
 |cont=>exact q
theorem Ap.quiet {pins:List (Addr×Obj)}{σ:St}{H:Hp}{s:Shared}(I:Ap X pins σ H s):interactive X.env=false:=by simp [interactive,I.ok.kind]
def Ajh (te:TE):TS:=fun D σ H=>te σ H fun _ H1=>D.nx σ H1
theorem Ci (he:PE X e te)(hs:swapsWith e none pos.line X.env=pure false:=by rfl):PS X (.Expr e pos) (Ajh te):=by
 intro pins s σ H D I h
 exact wpAny_Expr_any (Ba (he pins s σ H _ I h) fun v s1 ⟨x,H1,I1,r1,q1⟩=>⟨σ,H1,I1,q1⟩) I.quiet hs
def Ak6 (te:TE):TS:=fun D σ H=>te σ H D.rt
theorem At (he:PE X e te):PS X (.Return (some e) pos) (Ak6 te):=by
 intro pins s σ H D I h
 exact wpAny_Return_some (Ba (he pins s σ H _ I h) fun v s1 ⟨x,H1,I1,r1,q1⟩=>⟨x,σ,H1,I1,r1,q1⟩)
def Afk (c:TT)(t u:TS):TS:=fun D σ H=>c σ H fun b H1=>if b=true then t D σ H1 else u D σ H1
theorem Ai6 {c:Expr}{a b:List Stmt}{tc:TT}(hc:PT X c tc)(ha:Ko X a t)(hb:Ko X b u):PS X (.If c a b pos) (Afk tc t u):=by
 intro pins s σ H D I h
 refine wpAny_If (Ba (hc pins s σ H _ I h) fun d s1 ⟨H1,I1,q1⟩=>?_)
 cases d with
 |true=>exact ha pins s1 σ H1 D I1 q1
 |false=>exact hb pins s1 σ H1 D I1 q1
def Ad1:TS:=fun _ _ _=>False
theorem Ri:PS X st Ad1:=fun _ _ _ _ _ _ h=>h.elim
end
abbrev TG:=V→St→Hp→(St→Hp→Prop)→Prop
abbrev TGs:=List V→St→Hp→(St→Hp→Prop)→Prop
def PG (X:Cx)(target:Expr)(t:TG):Prop:=
 ∀(pins:List (Addr×Obj)) (s:Shared) (σ:St) (H:Hp) (v:V) (u:Value) (Q:St→Hp→Prop),Ap X pins σ H s→RelV v u→t v σ H Q →
  wpAny (model X.prog X.w) X.A (assign target X.env u) (fun _ s'=>∃σ' H',Ap X pins σ' H' s'∧Q σ' H') X.xe s
def PGs (X:Cx)(ts:List Expr)(t:TGs):Prop:=
 ∀(pins:List (Addr×Obj)) (s:Shared) (σ:St) (H:Hp) (vs:List V) (us:List Value) (Q:St→Hp→Prop),Ap X pins σ H s→Az vs us→t vs σ H Q →
  wpAny (model X.prog X.w) X.A (assignInOrder ((assignEach ts X.env).map (·.2)) us) (fun _ s'=>∃σ' H',Ap X pins σ' H' s'∧Q σ' H') X.xe s
abbrev Agz:=V→V→V→Hp→(Hp→Prop)→Prop
def Aiu (X:Cx)(t:Agz):Prop:=
 ∀(pins:List (Addr×Obj)) (s:Shared) (σ:St) (H:Hp) (o i v:V) (ov iv u:Value) (Q:Hp→Prop),Ap X pins σ H s→RelV o ov→RelV i iv→RelV v u→t o i v H Q →
  wpAny (model X.prog X.w) X.A (setItem ov iv u) (fun _ s'=>∃H',Ap X pins σ H' s'∧Q H') X.xe s
section
variable {X:Cx}{pos:Pos}
def U7 (i:Nat):TG:=fun v σ H Q=>Q (σ.set i (some v)) H
theorem Bb {i:Nat}{x:Str}(hN:X.N.Nodup)(hi:X.N[i]? =some x)(hx:Loc X.env.scope x)(hf:X.fn x=true∨X.env.scope.names.lookup x=some .local:=by first|exact .inl rfl|exact .inr rfl|assumption):PG X (.Name x pos) (U7 i):=by
 intro pins s σ H v u Q I r h
 exact wpAny_assign_Name (Ig I hN hi hx r (fun s' I'=>⟨_,H,I',h⟩) hf)
def Akj:TGs:=fun vs σ H Q=>vs=[]∧Q σ H
def Ah5 (t:TG)(u:TGs):TGs:=fun vs σ H Q=>∃v r,vs=v::r∧t v σ H fun σ' H'=>u r σ' H' Q
theorem Pm:PGs X [] Akj:=by
 intro pins s σ H vs us Q I r h
 obtain ⟨e,h⟩:=h
 subst e
 cases r
 exact assignInOrder_nil ⟨σ,H,I,h⟩
theorem Fa {e:Expr}{es:List Expr}{t:TG}{u:TGs}(h1:PG X e t)(h2:PGs X es u)
  (hs:(assignEach (e::es) X.env).map (·.2)=assign e X.env::(assignEach es X.env).map (·.2):=by rfl):PGs X (e::es) (Ah5 t u):=by
 intro pins s σ H vs us Q I r h
 obtain ⟨v,vr,e1,h⟩:=h
 subst e1
 cases r with
 |cons r rr=>
  rw [hs]
  refine assignInOrder_cons (Ba (h1 pins s σ H _ _ _ I r h) fun _ s1 ⟨σ1,H1,I1,q1⟩=>?_)
  exact h2 pins s1 σ1 H1 _ _ Q I1 rr q1
def Ad6 (K:PySem.W.Frag)(n:Nat)(t:TGs):TG:=fun v σ H Q=>∃a xs,v=.ref a∧Ed K H a xs∧xs.length=n∧t xs σ H Q
theorem T8 {es:List Expr}{k:Nat}{t:TGs}{n:Nat}(hc:X.calm=true)(h:PGs X es t)
  (hn:(assignEach es X.env).length=n:=by rfl) (hst:(assignEach es X.env).findIdx? (·.1)=none:=by rfl):PG X (.Tuple es k pos) (Ad6 X.K n t):=by
 intro pins s σ H v u Q I r hw
 obtain ⟨a,xs,e1,hq,hl,hw⟩:=hw
 subst e1
 cases r
 obtain ⟨its,rv,ht,hz⟩:=I.tuple hq
 refine assign_Tuple_tuple (I.ok.hd hc) ht (by simp [hn,←hl,rv.length]) hst fun h' hx=>?_
 have I1:Ap X pins σ H { s with heap:=h' }:=I.kept (t':=s.toks) fun b o e=>hx b o (Nat.ne_of_lt (Heap.lt_size e)) e
 exact h pins _ σ H xs _ Q I1 (by simpa using rv) hw
def Ale (to ti:TE)(t:Agz):TG:=fun v σ H Q=>to σ H fun o H1=>ti σ H1 fun i H2=>t o i v H2 fun H3=>Q σ H3
theorem Ad0 {o i:Expr}{to ti:TE}{t:Agz}(ho:PE X o to)(hi:PE X i ti)(hs:Aiu X t)
  (ha:∀v,assign (.Subscript o i pos) X.env v=(do
   let ov ←holding [v] (eval o X.env)
   let iv ←holding [v,ov] (eval i X.env)
   standAt pos
   holding [v,ov,iv] (setItem ov iv v)
   release [v,ov,iv] []):=by intro _;rfl):PG X (.Subscript o i pos) (Ale to ti t):=by
 intro pins s σ H v u Q I r h
 rw [ha]
 refine wpAny_bind (wpAny_holding (Ba (ho pins s σ H _ I h) fun ov s1 ⟨x,H1,I1,r1,q1⟩=>?_))
 refine wpAny_bind (wpAny_holding (Ba (hi pins s1 σ H1 _ I1 q1) fun iv s2 ⟨y,H2,I2,r2,q2⟩=>?_))
 refine wpAny_bind (wpAny_standAt (wpAny_bind (wpAny_holding (Ba (hs pins s2 σ H2 x y v ov iv u _ I2 r1 r2 r q2) fun _ s3 ⟨H3,I3,q3⟩=>?_))))
 exact wpAny_release ⟨σ,H3,I3,q3⟩
def Abh (te:TE)(g:TG):TS:=fun D σ H=>te σ H fun x H1=>g x σ H1 D.nx
theorem Af4 {tg e:Expr}{te:TE}{g:TG}(he:PE X e te)(hg:PG X tg g)(hs:swapsWithSole [tg] e pos.line X.env=pure false:=by rfl)(hw:swappedStores [tg] e X.env=pure none:=by rfl)
  (h1:(assignEach [tg] X.env).map (·.2)=[assign tg X.env]:=by rfl):PS X (.Assign [tg] e pos) (Abh te g):=by
 intro pins s σ H D I h
 refine wpAny_Assign_stores (Ba (he pins s σ H _ I h) fun v s1 ⟨x,H1,I1,r1,q1⟩=>?_) hs hw
 rw [h1]
 exact Ba (hg pins s1 σ H1 x v _ I1 r1 q1) fun _ s2 q=>q
theorem Ar {i:Nat}{x:Str}{e:Expr}{te:TE}{pos':Pos}(hN:X.N.Nodup)(hi:X.N[i]? =some x)(hx:Loc X.env.scope x)(he:PE X e te)(hs:swapsWith e (some (.Name x pos')) pos.line X.env=pure false:=by rfl)(hf:X.fn x=true∨X.env.scope.names.lookup x=some .local:=by first|exact .inl rfl|exact .inr rfl|assumption) :
  PS X (.Assign [.Name x pos'] e pos) (Abh te (U7 i)):=by
 intro pins s σ H D I h
 refine wpAny_Assign_Name (Ba (he pins s σ H _ I h) fun v s1 ⟨y,H1,I1,r1,q1⟩=>?_) hs
 exact Ig I1 hN hi hx r1 (fun s2 I2=>⟨_,H1,I2,q1⟩) hf
end
section
variable {X:Cx}{pos:Pos}
end
structure It where
 go:Nat→Hp→Prop
 yld:Nat→Hp→V→Hp→Prop
 stop:Nat→Hp→Prop
def J3 (X:Cx)(pins:List (Addr×Obj))(H:Hp)(b:Addr):Prop:=
 H b=none∧b≠X.env.locals∧b∉X.fs∧(b∈X.ex∨X.s₀.heap.objs.size≤b)∧(∀x c,X.env.cells.lookup x=some c→c≠b)∧∀p∈X.pn++pins,p.1≠b
theorem Ap.fpOk {X:Cx}{pins:List (Addr×Obj)}{σ:St}{H H':Hp}{s:Shared}{b:Addr}(I:Ap X pins σ H s)(hb:s.heap.objs.size≤b)(hn:H' b=none):J3 X pins H' b:=by
 refine ⟨hn,Nat.ne_of_gt (Nat.lt_of_lt_of_le I.lt hb),I.nofs hb,.inr (Nat.le_trans I.sz hb),fun x c e z=>?_,fun p hp z=>?_⟩
 ·obtain ⟨v,q⟩:=I.cell x c e
  exact absurd (Nat.lt_of_lt_of_le q.lt (by rw [z];exact hb)) (Nat.lt_irrefl _)
 ·exact absurd (Nat.lt_of_lt_of_le (Heap.lt_size (I.pin p hp).1) (by rw [z];exact hb)) (Nat.lt_irrefl _)
structure W7 (P:Program)(w:World)(K:PySem.W.Frag)(tg:Expr)(J:It)(fp:List Addr)(it:Addr)(tn:Nat→Heap→Prop):Prop where
 mem:it∈fp
 obj:∀i h,tn i h→∀b∈fp,∃o,h.get? b=some o∧∀v,o.data≠.cell v
 keep:∀i h h',tn i h→(∀b∈fp,∀o,h.get? b=some o→h'.get? b=some o)→tn i h'
 item:∀(X:Cx),X.prog=P→X.w=w→X.K=K→X.calm=true→∀(i:Nat) (pins:List (Addr×Obj)) (s:Shared) (σ:St) (H:Hp) (E:Value→Shared→Prop),Ap X pins σ H s→(∀b∈fp,J3 X pins H b)→tn i s.heap→J.go i H →
  wpAny (model P w) X.A (pyNext (.ref it)) (fun r s1=>∃u,r=some u ∧
   wpAny (model P w) X.A (letOwnedTupleGo tg (.ref it) u) (fun _ s2=>∃x H',Ap X pins σ H' s2∧RelV x u∧J.yld i H x H'∧tn (i+1) s2.heap∧∀b∈fp,H' b=none) E s1) E s
 done:∀(X:Cx),X.prog=P→X.w=w→X.K=K→X.calm=true→∀(i:Nat) (pins:List (Addr×Obj)) (s:Shared) (σ:St) (H:Hp) (E:Value→Shared→Prop),Ap X pins σ H s→(∀b∈fp,J3 X pins H b)→tn i s.heap→J.stop i H →
  wpAny (model P w) X.A (pyNext (.ref it)) (fun r s1=>r=none∧Ap X pins σ H s1) E s
 self:∀(A:Around) (i:Nat) (s:Shared) (Q:Value→Shared→Prop) (E:Value→Shared→Prop),tn i s.heap→Q (.ref it) s→wpAny (model P w) A (pyIter (.ref it)) Q E s
abbrev TI:=St→Hp→(It→Hp→Prop)→Prop
def PIE (X:Cx)(pins:List (Addr×Obj))(σ:St)(tg:Expr)(R:It→Hp→Prop)(itv:Value)(s2:Shared):Prop:=
 ∃(it:Addr) (fp:List Addr) (tn:Nat→Heap→Prop) (J:It) (H':Hp),itv=.ref it∧Ap X pins σ H' s2∧W7 X.prog X.w X.K tg J fp it tn∧tn 0 s2.heap∧(∀b∈fp,J3 X pins H' b)∧R J H'
def PI (X:Cx)(tg iter:Expr)(wi:TI):Prop:=
 ∀(pins:List (Addr×Obj)) (s:Shared) (σ:St) (H:Hp) (R:It→Hp→Prop),Ap X pins σ H s→wi σ H R →
  wpAny (model X.prog X.w) X.A (eval iter X.env) (fun v s1=>wpAny (model X.prog X.w) X.A (pyIter v) (PIE X pins σ tg R) X.xe s1) X.xe s
theorem X5 {M:Model}{A:Around}{E:Value→Shared→Prop}{s:Shared}{tg:Expr}{it:Addr}{u:Value}{o:Obj}{n:String}{vs:Array Value}{Q:Unit→Shared→Prop}(ho:s.heap.get? it=some o)(hc:o.cls=.type n)(hd:o.data=.fields vs)
  (hn:["enumerate","zip","dict_itemiterator","dict_reverseitemiterator","odict_iterator","itertools.zip_longest","itertools.pairwise"].contains n=false) (hQ:Q () s):wpAny M A (letOwnedTupleGo tg (.ref it) u) Q E s:=by
 unfold letOwnedTupleGo
 cases tg<;>first
  |exact wpAny_pure hQ
  | (cases u<;>first
    |exact wpAny_pure hQ
    | (refine wpAny_bind (wpAny_load ho ?_)
       rw [hc,hd]
       show wpAny M A (if (["enumerate","zip","dict_itemiterator","dict_reverseitemiterator","odict_iterator","itertools.zip_longest","itertools.pairwise"].contains n&&vs[0]? ==some (rawInt _))=true then _ else _) Q E s
       rw [if_neg (by intro h;rw [hn,Bool.false_and] at h;cases h)]
       exact wpAny_pure hQ))
def Itl (K:PySem.W.Frag)(a:Addr):It:=
 ⟨fun i H=>∃xs x,A0 K H a xs∧xs[i]? =some x,fun i H x H'=>H'=H∧∀xs,A0 K H a xs→xs[i]? =some x,fun i H=>∃xs,A0 K H a xs∧xs.length≤i⟩
def Itt (K:PySem.W.Frag)(a:Addr):It:=
 ⟨fun i H=>∃xs x,Ed K H a xs∧xs[i]? =some x,fun i H x H'=>H'=H∧∀xs,Ed K H a xs→xs[i]? =some x,fun i H=>∃xs,Ed K H a xs∧xs.length≤i⟩
def Itr (lo:Int)(n:Nat):It:=⟨fun i _=>i<n,fun i H x H'=>H'=H∧x=.int (lo+i),fun i _=>n≤i⟩
theorem V6 {P:Program}{w:World}{K:PySem.W.Frag}{tg:Expr}(a it:Addr):W7 P w K tg (Itl K a) [it] it (fun i h=>h.IsListIter it a i) where
 mem:=by simp
 obj:=fun i h st b hb=>by
  have e:b=it:=by simpa using hb
  subst e
  obtain ⟨o,e,c,d⟩:=st
  exact ⟨o,e,fun v z=>by rw [d] at z;cases z⟩
 keep:=fun i h h' st k=>st.at fun o e=>k it (by simp) o e
 item:=by
  intro X hP hw hK hc i pins s σ H E I hf st hg
  subst hP hw hK
  obtain ⟨xs,x,hq,hx⟩:=hg
  obtain ⟨its,rv,p,hz⟩:=I.list hq
  obtain ⟨u,hu,ru⟩:=rv.get hx
  obtain ⟨f0,f1,f2,f3,f4,f5⟩:=hf it (by simp)
  refine wpAny_pyNext_list_item st p.isList (x:=u) (by simpa using hu) fun h' st' sb=>?_
  have I1:Ap X pins σ H { s with heap:=h' }:=I.turned (t':=s.toks) (fun b o hb e=>(sb.2 b hb).trans e) f0 f1 f3 f4 f5
  obtain ⟨o,e,c,d⟩:=id st'
  exact ⟨u,rfl,X5 (s:={ s with heap:=h' }) e c d (by decide) ⟨x,H,I1,ru,⟨rfl,fun ys hy=>by rw [I.list_inj hy hq];exact hx⟩,st',fun b hb=>(hf b hb).1⟩⟩
 done:=by
  intro X hP hw hK hc i pins s σ H E I hf st hg
  subst hP hw hK
  obtain ⟨xs,hq,hx⟩:=hg
  obtain ⟨its,rv,p,hz⟩:=I.list hq
  obtain ⟨f0,f1,f2,f3,f4,f5⟩:=hf it (by simp)
  have hl:=rv.length
  exact wpAny_pyNext_list_end (I.ok.hd hc) st p.isList (by simp;omega) fun h' eb=>⟨rfl,I.turned (t':=s.toks) (fun b o hb e=>eb b o hb e) f0 f1 f3 f4 f5⟩
 self:=fun _ _ _ _ _ st h=>wpAny_pyIter_listiter st h
theorem Ts {P:Program}{w:World}{K:PySem.W.Frag}{tg:Expr}(a it:Addr):W7 P w K tg (Itt K a) [it] it (fun i h=>h.IsTupleIter it a i) where
 mem:=by simp
 obj:=fun i h st b hb=>by
  have e:b=it:=by simpa using hb
  subst e
  obtain ⟨o,e,c,d⟩:=st
  exact ⟨o,e,fun v z=>by rw [d] at z;cases z⟩
 keep:=fun i h h' st k=>st.at fun o e=>k it (by simp) o e
 item:=by
  intro X hP hw hK hc i pins s σ H E I hf st hg
  subst hP hw hK
  obtain ⟨xs,x,hq,hx⟩:=hg
  obtain ⟨its,rv,p,hz⟩:=I.tuple hq
  obtain ⟨u,hu,ru⟩:=rv.get hx
  obtain ⟨f0,f1,f2,f3,f4,f5⟩:=hf it (by simp)
  refine wpAny_pyNext_tuple_item st (show s.heap.IsTuple a its.toArray from p) (x:=u) (by simpa using hu) fun h' st' sb=>?_
  have I1:Ap X pins σ H { s with heap:=h' }:=I.turned (t':=s.toks) (fun b o hb e=>(sb.2 b hb).trans e) f0 f1 f3 f4 f5
  obtain ⟨o,e,c,d⟩:=id st'
  exact ⟨u,rfl,X5 (s:={ s with heap:=h' }) e c d (by decide) ⟨x,H,I1,ru,⟨rfl,fun ys hy=>by rw [I.tuple_inj hy hq];exact hx⟩,st',fun b hb=>(hf b hb).1⟩⟩
 done:=by
  intro X hP hw hK hc i pins s σ H E I hf st hg
  subst hP hw hK
  obtain ⟨xs,hq,hx⟩:=hg
  obtain ⟨its,rv,p,hz⟩:=I.tuple hq
  obtain ⟨f0,f1,f2,f3,f4,f5⟩:=hf it (by simp)
  have hl:=rv.length
  exact wpAny_pyNext_tuple_end (I.ok.hd hc) st (show s.heap.IsTuple a its.toArray from p) (by simp;omega) fun h' eb=>⟨rfl,I.turned (t':=s.toks) (fun b o hb e=>eb b o hb e) f0 f1 f3 f4 f5⟩
 self:=fun _ _ _ _ _ st h=>wpAny_pyIter_tupleiter st h
theorem Tx {P:Program}{w:World}{K:PySem.W.Frag}{tg:Expr}(it:Addr)(lo:Int)(n:Nat):W7 P w K tg (Itr lo n) [it] it (fun i h=>IsRangeIter h it (lo+(i:Nat)*1) ((n:Int)-(i:Nat)) 1) where
 mem:=by simp
 obj:=fun i h st b hb=>by
  have e:b=it:=by simpa using hb
  subst e
  exact ⟨_,st,fun v z=>by
   have z':Data.fields _=Data.cell v:=z
   cases z'⟩
 keep:=fun i h h' st k=>k it (by simp) _ st
 item:=by
  intro X hP hw hK hc i pins s σ H E I hf st hg
  subst hP hw hK
  obtain ⟨f0,f1,f2,f3,f4,f5⟩:=hf it (by simp)
  have W:=Walks.range (prog:=X.prog) (w:=X.w) (I.ok.hd hc) it lo 1 n
  refine W.item i s _ _ hg st fun v h' tk hv st' kk=>?_
  obtain ⟨t,rfl⟩:=hv
  have I1:Ap X pins σ H { s with heap:=h',toks:=tk }:=I.turned (fun b o hb e=>kk b o (by simpa using hb) e) f0 f1 f3 f4 f5
  refine ⟨_,rfl,X5 (s:={ s with heap:=h',toks:=tk }) (n:="range_iterator") st' rfl rfl (by decide) ⟨.int (lo+i),H,I1,⟨t,?_⟩,⟨rfl,rfl⟩,st',fun b hb=>(hf b hb).1⟩⟩
  rw [Int.mul_one]
 done:=by
  intro X hP hw hK hc i pins s σ H E I hf st hg
  subst hP hw hK
  obtain ⟨f0,f1,f2,f3,f4,f5⟩:=hf it (by simp)
  exact wpAny_pyNext_range_end (I.ok.hd hc) st (by have:n≤i:=hg;omega) fun h' eb=>⟨rfl,I.turned (t':=s.toks) (fun b o hb e=>eb b o hb e) f0 f1 f3 f4 f5⟩
 self:=fun _ _ _ _ _ st h=>wpAny_pyIter_rangeiter st h
end L2
namespace L2
open PySem PySem.Spec PyProof.Rows
section
variable {X:Cx}{tg:Expr}
def Ahf (K:PySem.W.Frag)(tl:TE):TI:=fun σ H R=>tl σ H fun x H1=>∃a,x=.ref a∧(∃xs,A0 K H1 a xs)∧R (Itl K a) H1
def Akz (K:PySem.W.Frag)(tl:TE):TI:=fun σ H R=>tl σ H fun x H1=>∃a,x=.ref a∧(∃xs,Ed K H1 a xs)∧R (Itt K a) H1
theorem Db {l:Expr}{tl:TE}(hl:PE X l tl):PI X tg l (Ahf X.K tl):=by
 intro pins s σ H R I h
 refine Ba (hl pins s σ H _ I h) fun v s1 ⟨x,H1,I1,r1,q1⟩=>?_
 obtain ⟨a,e,⟨xs,hq⟩,q⟩:=q1
 subst e
 cases r1
 obtain ⟨its,rv,p,hz⟩:=I1.list hq
 refine wpAny_pyIter_list p.isList ?_
 refine ⟨s1.heap.objs.size,[s1.heap.objs.size],_,_,H1,rfl,I1.kept (t':=s1.toks) fun b o e=>Heap.get?_push_of_some _ e,V6 a _,⟨_,Heap.get?_push_size _ rfl,rfl,rfl⟩,fun b hb=>?_,q⟩
 have e:b=s1.heap.objs.size:=by simpa using hb
 subst e
 exact I1.fpOk (Nat.le_refl _) (I1.hok.fresh (Nat.le_refl _))
theorem Af6 {l:Expr}{tl:TE}(hl:PE X l tl):PI X tg l (Akz X.K tl):=by
 intro pins s σ H R I h
 refine Ba (hl pins s σ H _ I h) fun v s1 ⟨x,H1,I1,r1,q1⟩=>?_
 obtain ⟨a,e,⟨xs,hq⟩,q⟩:=q1
 subst e
 cases r1
 obtain ⟨its,rv,p,hz⟩:=I1.tuple hq
 refine wpAny_pyIter_tuple (show s1.heap.IsTuple a its.toArray from p) ?_
 refine ⟨s1.heap.objs.size,[s1.heap.objs.size],_,_,H1,rfl,I1.kept (t':=s1.toks) fun b o e=>Heap.get?_push_of_some _ e,Ts a _,⟨_,Heap.get?_push_size _ rfl,rfl,rfl⟩,fun b hb=>?_,q⟩
 have e:b=s1.heap.objs.size:=by simpa using hb
 subst e
 exact I1.fpOk (Nat.le_refl _) (I1.hok.fresh (Nat.le_refl _))
theorem Yt {pins:List (Addr×Obj)}{σ:St}{H:Hp}{s:Shared}{R:It→Hp→Prop}{E:Value→Shared→Prop}{lo hi:Int}{t u v:Tok}{tk:Nat}(I:Ap X pins σ H s)(h1:-(2 ^ 62)≤lo)(h2:lo<2 ^ 62)(h3:-(2 ^ 62)≤hi)(h4:hi<2 ^ 62)
  (q:R (Itr lo (hi-lo).toNat) H):wpAny (model X.prog X.w) X.A (pyIter (.ref s.heap.objs.size)) (PIE X pins σ tg R) E { s with heap:=s.heap.push { cls:=.type "range",data:=.fields #[.int lo t,.int hi u,.int 1 v] },toks:=tk }:=by
 refine wpAny_pyIter_range (IsRange.new ..) (small_one h1 h2 h3 h4) ?_
 have I1:Ap X pins σ H { s with heap:=s.heap.push { cls:=.type "range",data:=.fields #[.int lo t,.int hi u,.int 1 v] },toks:=tk }:=I.kept fun b o e=>Heap.get?_push_of_some _ e
 refine ⟨(s.heap.push { cls:=.type "range",data:=.fields #[.int lo t,.int hi u,.int 1 v] }).objs.size,[(s.heap.push { cls:=.type "range",data:=.fields #[.int lo t,.int hi u,.int 1 v] }).objs.size],_,_,H,rfl,
  I1.kept (t':=tk) fun b o e=>Heap.get?_push_of_some _ e,Tx _ lo (hi-lo).toNat,?_,fun b hb=>?_,q⟩
 ·have e1:lo+((0:Nat):Int)*1=lo:=by simp
  have e2:(((hi-lo).toNat:Nat):Int)-((0:Nat):Int)=Builtin.Range.rangeSize lo hi 1:=by rw [rangeSize_one];split<;>omega
  show IsRangeIter _ _ (lo+((0:Nat):Int)*1) ((((hi-lo).toNat:Nat):Int)-((0:Nat):Int)) 1
  rw [e1,e2]
  exact Heap.get?_push_size _ rfl
 ·have e:b=(s.heap.push { cls:=.type "range",data:=.fields #[.int lo t,.int hi u,.int 1 v] }).objs.size:=by simpa using hb
  subst e
  exact I1.fpOk (Nat.le_refl _) (I1.hok.fresh (Nat.le_refl _))
def Ail (ta:TA):TI:=fun σ H R=>ta σ H fun vs H1=>∃j:Int,vs=[.int j]∧-(2 ^ 62)≤j∧j<2 ^ 62∧R (Itr 0 j.toNat) H1
theorem E9 {a:Expr}{ta:TA}{p pos:Pos}(hg:Gl X "range")(hm:X.mg "range"=none)(ha:PA X [a] ta)(hs:starEach [a] X.env=[(false,eval a X.env)]:=by rfl):PI X tg (.Call (.Name "range" p) [a] [] pos) (Ail ta):=by
 intro pins s σ H R I h
 refine Call_ (Fr I hg hm boot_range (PyProof.Rows.callWith_type1 (Ba (ha pos pins s σ H _ I h) fun us s1 ⟨vs,H1,I1,r1,q1⟩=>?_) hs rfl))
 obtain ⟨j,e,q1,q2,q⟩:=q1
 subst e
 cases r1 with
 |cons r rr=>
  cases rr
  obtain ⟨t,rfl⟩:=r
  exact call_range_1 (Yt I1 (by omega) (by omega) q1 q2 (by simpa using q))
def Ak9 (wi:TI)(g:TG)(tb:TS):TS:=fun D σ H=>wi σ H fun J H1=>∃W:Nat→Nat→St→Hp→Prop,(∃m,W 0 m σ H1)∧∀i m σ H,W i m σ H →
 (J.stop i H∧D.nx σ H)∨(J.go i H∧∃N:St→Hp→Prop,(∀σ' H',N σ' H'→∃m',m'<m∧W (i+1) m' σ' H')∧∀x H',J.yld i H x H'→g x σ H' fun σ2 H2=>tb { D with nx:=N,ct:=N,bk:=D.nx } σ2 H2)
def Qc (fp:List Addr)(h:Heap):List (Addr×Obj):=fp.filterMap fun b=>(h.get? b).map fun o=>(b,o)
theorem Cd {fp:List Addr}{h:Heap}{b:Addr}{o:Obj}(hb:b∈fp)(e:h.get? b=some o):(b,o)∈Qc fp h:=List.mem_filterMap.mpr ⟨b,hb,by rw [e];rfl⟩
theorem Wc {fp:List Addr}{h:Heap}{p:Addr×Obj}(hp:p∈Qc fp h):p.1∈fp∧h.get? p.1=some p.2:=by
 obtain ⟨b,hb,e⟩:=List.mem_filterMap.mp hp
 cases q:h.get? b with
 |none=>rw [q] at e;cases e
 |some o=>
  rw [q] at e
  have e':(b,o)=p:=Option.some.inj e
  subst e'
  exact ⟨hb,q⟩
theorem Ap.pinned {pins:List (Addr×Obj)}{σ:St}{H:Hp}{s:Shared}{fp:List Addr}(I:Ap X pins σ H s)(hf:∀b∈fp,J3 X pins H b)(ho:∀b∈fp,∃o,s.heap.get? b=some o∧∀v,o.data≠.cell v):Ap X (pins++Qc fp s.heap) σ H s:=
 I.pins_of fun p hp=>(List.mem_append.mp hp).elim (fun z=>I.pin p (List.mem_append_right _ z)) fun z=>by
  obtain ⟨hb,e⟩:=Wc z
  obtain ⟨f0,f1,f2,_⟩:=hf p.1 hb
  obtain ⟨o,e',d⟩:=ho p.1 hb
  rw [e] at e';cases e'
  exact ⟨e,f0,f1,f2,d⟩
theorem Ap.unpinned {pins pl:List (Addr×Obj)}{σ:St}{H:Hp}{s:Shared}(I:Ap X (pins++pl) σ H s):Ap X pins σ H s:=I.pins_of fun p hp=>I.pin p (List.mem_append_right _ (List.mem_append_left _ hp))
theorem Gk {iter:Expr}{body:List Stmt}{wi:TI}{g:TG}{tb:TS}{pos:Pos}(hp:PassesOwn (model X.prog X.w) X.A X.env X.xe)(hc:X.calm=true)(hi:PI X tg iter wi)(hg:PG X tg g)(hb:Ko X body tb)
  (hs:∀x,foldedSetIterable iter X.env x=pure x:=by intro _;rfl):PS X (.For tg iter body [] pos) (Ak9 wi g tb):=by
 intro pins s σ H D I h
 refine wpAny_For (Ba (hi pins s σ H _ I h) fun v s1 h1=>Ba h1 fun itv s2 h2=>?_) hs
 obtain ⟨it,fp,tn,J,H2,e,I2,T,st2,f2,W,⟨m0,w0⟩,turn⟩:=h2
 subst e
 have stat:∀{H':Hp},(∀b∈fp,H' b=none)→∀b∈fp,J3 X pins H' b:=fun hn b hb=>⟨hn b hb,(f2 b hb).2⟩
 refine codeAny_forLoop_any (fun n s'=>∃i σ' H',Ap X pins σ' H' s'∧tn i s'.heap∧(∀b∈fp,H' b=none)∧W i n σ' H') ?_ m0 ⟨0,σ,H2,I2,st2,fun b hb=>(f2 b hb).1,w0⟩
 rintro n s3 ⟨i,σ3,H3,I3,st3,fr3,w3⟩
 rcases turn i n σ3 H3 w3 with ⟨stop,qn⟩|⟨go,N,hN,step⟩
 ·refine wpAny_passesOwn hp (Ba (T.done X rfl rfl rfl hc i pins s3 σ3 H3 X.xe I3 (stat fr3) st3 stop) fun r s4 ⟨hr,I4⟩=>?_)
  subst hr
  exact wpAny_execs_nil ⟨σ3,H3,I4,qn⟩
 ·refine wpAny_passesOwn hp (Ba (T.item X rfl rfl rfl hc i pins s3 σ3 H3 X.xe I3 (stat fr3) st3 go) fun r s4 ⟨u,hr,h4⟩=>?_)
  subst hr
  refine wpAny_passesOwn hp (Ba h4 fun _ s5 ⟨x,H5,I5,r5,y5,st5,fr5⟩=>?_)
  have I5':=I5.pinned (stat fr5) (T.obj _ _ st5)
  refine wpAny_passesOwn hp (Ba (hg _ s5 σ3 H5 x u _ I5' r5 (step x H5 y5)) fun _ s6 ⟨σ6,H6,I6,q6⟩=>?_)
  refine wpAny_passesOwn hp (Ba (hb _ s6 σ6 H6 _ I6 q6) fun f s7 q7=>?_)
  have again:∀{σ7:St} {H7:Hp},Ap X (pins++Qc fp s5.heap) σ7 H7 s7→N σ7 H7→∃m,m<n∧∃i σ' H',Ap X pins σ' H' s7∧tn i s7.heap∧(∀b∈fp,H' b=none)∧W i m σ' H':=fun {σ7 H7} I7 n7=>by
   obtain ⟨m',hm,w7⟩:=hN σ7 H7 n7
   refine ⟨m',hm,i+1,σ7,H7,I7.unpinned,T.keep _ _ _ st5 fun b hb o e=>(I7.pin (b,o) (List.mem_append_right _ (List.mem_append_right _ (Cd hb e)))).1,fun b hb=>?_,w7⟩
   obtain ⟨o,e,d⟩:=T.obj _ _ st5 b hb
   exact (I7.pin (b,o) (List.mem_append_right _ (List.mem_append_right _ (Cd hb e)))).2.1
  cases f with
  |next=>obtain ⟨σ7,H7,I7,n7⟩:=q7;exact again I7 n7
  |cont=>obtain ⟨σ7,H7,I7,n7⟩:=q7;exact again I7 n7
  |brk=>obtain ⟨σ7,H7,I7,q7⟩:=q7;exact ⟨σ7,H7,I7.unpinned,q7⟩
  |ret v=>obtain ⟨x7,σ7,H7,I7,r7,q7⟩:=q7;exact ⟨x7,σ7,H7,I7.unpinned,r7,q7⟩
end
theorem Il {K:PySem.W.Frag}{a:Addr}{xs:List V}{g:TG}{tb:TS}{D:Nq}{σ:St}{H:Hp}(Pv:Nat→St→Hp→Prop)(h0:Pv 0 σ H)(hl:∀i σ H,i≤xs.length→Pv i σ H→A0 K H a xs)
  (hs:∀i x σ H,xs[i]? =some x→Pv i σ H→g x σ H fun σ2 H2=>tb { D with nx:=Pv (i+1),ct:=Pv (i+1),bk:=D.nx } σ2 H2) (hd:∀σ H,Pv xs.length σ H→D.nx σ H) :
  ∃W:Nat→Nat→St→Hp→Prop,(∃m,W 0 m σ H)∧∀i m σ H,W i m σ H →
   ((Itl K a).stop i H∧D.nx σ H)∨((Itl K a).go i H∧∃N:St→Hp→Prop,(∀σ' H',N σ' H'→∃m',m'<m∧W (i+1) m' σ' H')∧∀x H',(Itl K a).yld i H x H'→g x σ H' fun σ2 H2=>tb { D with nx:=N,ct:=N,bk:=D.nx } σ2 H2):=by
 refine ⟨fun i m σ H=>m=xs.length-i∧i≤xs.length∧Pv i σ H,⟨xs.length,by simp,Nat.zero_le _,h0⟩,?_⟩
 rintro i m σ H ⟨rfl,hi,p⟩
 have q:=hl i σ H hi p
 by_cases hlt:i<xs.length
 ·refine .inr ⟨⟨xs,xs[i],q,by simp [hlt]⟩,Pv (i+1),fun σ' H' p'=>⟨xs.length-(i+1),by omega,rfl,hlt,p'⟩,fun x H' y=>?_⟩
  obtain ⟨e,y⟩:=y
  subst e
  exact hs i x σ _ (y xs q) p
 ·have e:i=xs.length:=by omega
  subst e
  exact .inl ⟨⟨xs,q,Nat.le_refl _⟩,hd σ H p⟩
theorem Acn {K:PySem.W.Frag}{a:Addr}{xs:List V}{g:TG}{tb:TS}{D:Nq}{σ:St}{H:Hp}(Pv:Nat→St→Hp→Prop)(h0:Pv 0 σ H)(hl:∀i σ H,i≤xs.length→Pv i σ H→Ed K H a xs)
  (hs:∀i x σ H,xs[i]? =some x→Pv i σ H→g x σ H fun σ2 H2=>tb { D with nx:=Pv (i+1),ct:=Pv (i+1),bk:=D.nx } σ2 H2) (hd:∀σ H,Pv xs.length σ H→D.nx σ H) :
  ∃W:Nat→Nat→St→Hp→Prop,(∃m,W 0 m σ H)∧∀i m σ H,W i m σ H →
   ((Itt K a).stop i H∧D.nx σ H)∨((Itt K a).go i H∧∃N:St→Hp→Prop,(∀σ' H',N σ' H'→∃m',m'<m∧W (i+1) m' σ' H')∧∀x H',(Itt K a).yld i H x H'→g x σ H' fun σ2 H2=>tb { D with nx:=N,ct:=N,bk:=D.nx } σ2 H2):=by
 refine ⟨fun i m σ H=>m=xs.length-i∧i≤xs.length∧Pv i σ H,⟨xs.length,by simp,Nat.zero_le _,h0⟩,?_⟩
 rintro i m σ H ⟨rfl,hi,p⟩
 have q:=hl i σ H hi p
 by_cases hlt:i<xs.length
 ·refine .inr ⟨⟨xs,xs[i],q,by simp [hlt]⟩,Pv (i+1),fun σ' H' p'=>⟨xs.length-(i+1),by omega,rfl,hlt,p'⟩,fun x H' y=>?_⟩
  obtain ⟨e,y⟩:=y
  subst e
  exact hs i x σ _ (y xs q) p
 ·have e:i=xs.length:=by omega
  subst e
  exact .inl ⟨⟨xs,q,Nat.le_refl _⟩,hd σ H p⟩
theorem J8 {lo:Int}{n:Nat}{g:TG}{tb:TS}{D:Nq}{σ:St}{H:Hp}(Pv:Nat→St→Hp→Prop)(h0:Pv 0 σ H)
  (hs:∀i σ H,i<n→Pv i σ H→g (.int (lo+i)) σ H fun σ2 H2=>tb { D with nx:=Pv (i+1),ct:=Pv (i+1),bk:=D.nx } σ2 H2) (hd:∀σ H,Pv n σ H→D.nx σ H) :
  ∃W:Nat→Nat→St→Hp→Prop,(∃m,W 0 m σ H)∧∀i m σ H,W i m σ H →
   ((Itr lo n).stop i H∧D.nx σ H)∨((Itr lo n).go i H∧∃N:St→Hp→Prop,(∀σ' H',N σ' H'→∃m',m'<m∧W (i+1) m' σ' H')∧∀x H',(Itr lo n).yld i H x H'→g x σ H' fun σ2 H2=>tb { D with nx:=N,ct:=N,bk:=D.nx } σ2 H2):=by
 refine ⟨fun i m σ H=>m=n-i∧i≤n∧Pv i σ H,⟨n,by simp,Nat.zero_le _,h0⟩,?_⟩
 rintro i m σ H ⟨rfl,hi,p⟩
 by_cases hlt:i<n
 ·refine .inr ⟨hlt,Pv (i+1),fun σ' H' p'=>⟨n-(i+1),by omega,rfl,hlt,p'⟩,fun x H' y=>?_⟩
  obtain ⟨e,y⟩:=y
  subst e y
  exact hs i σ _ hlt p
 ·have e:i=n:=by omega
  subst e
  exact .inl ⟨Nat.le_refl _,hd σ H p⟩
end L2
namespace L2
open PySem PySem.Spec PyProof.Rows
abbrev R2:=V→V→Hp→VK→Prop
def C6 (X:Cx)(f:Value→Value→Sem Value)(r:R2):Prop:=
 ∀(pins:List (Addr×Obj)) (s:Shared) (σ:St) (H:Hp) (x y:V) (v u:Value) (Q:VK),Ap X pins σ H s→RelV x v→RelV y u→r x y H Q →
  wpAny (model X.prog X.w) X.A (f v u) (EP X pins σ Q) X.xe s
def UnR (X:Cx)(f:Value→Sem Value)(r:V→Hp→VK→Prop):Prop:=
 ∀(pins:List (Addr×Obj)) (s:Shared) (σ:St) (H:Hp) (x:V) (v:Value) (Q:VK),Ap X pins σ H s→RelV x v→r x H Q →
  wpAny (model X.prog X.w) X.A (f v) (EP X pins σ Q) X.xe s
def B6 (X:Cx)(f:Value)(r:List V→Hp→VK→Prop):Prop:=
 ∀(pins:List (Addr×Obj)) (s:Shared) (σ:St) (H:Hp) (xs:List V) (us:List Value) (Q:VK),Ap X pins σ H s→Az xs us→r xs H Q →
  wpAny (model X.prog X.w) X.A (call f us) (EP X pins σ Q) X.xe s
def tOp (r:R2)(ta tb:TE):TE:=fun σ H Q=>ta σ H fun x H1=>tb σ H1 fun y H2=>r x y H2 Q
def tUn (r:V→Hp→VK→Prop)(ta:TE):TE:=fun σ H Q=>ta σ H fun x H1=>r x H1 Q
def rI (C:Int→Int→Prop)(g:Int→Int→V):R2:=fun x y H Q=>∃i j,x=.int i∧y=.int j∧C i j∧Q (g i j) H
def rI0 (g:Int→Int→V):R2:=fun x y H Q=>∃i j,x=.int i∧y=.int j∧Q (g i j) H
def rU (g:Int→V):V→Hp→VK→Prop:=fun x H Q=>∃i,x=.int i∧Q (g i) H
section
variable {X:Cx}{a b c:Expr}{ta tb tc:TE}{pos:Pos}
theorem Ady (ha:PE X a ta)(hb:PE X b tb){pins:List (Addr×Obj)}{s:Shared}{σ:St}{H:Hp}{R:V→V→Hp→Prop}(I:Ap X pins σ H s)
  (h:ta σ H fun x H1=>tb σ H1 fun y H2=>R x y H2) {Q:Value→Shared→Prop} {f:Value→Value→Sem Value}
  (hf:∀v u s2 x y H2,Ap X pins σ H2 s2→RelV x v→RelV y u→R x y H2→wpAny (model X.prog X.w) X.A (f v u) Q X.xe s2) :
  wpAny (model X.prog X.w) X.A (eval a X.env) (fun v s₁=>wpAny (model X.prog X.w) X.A (eval b X.env) (fun u s₂=>wpAny (model X.prog X.w) X.A (f v u) Q X.xe s₂) X.xe s₁) X.xe s:=by
 refine Ba (ha pins s σ H _ I h) fun v s1 ⟨x,H1,I1,r1,q1⟩=>?_
 refine Ba (hb pins s1 σ H1 _ I1 q1) fun u s2 ⟨y,H2,I2,r2,q2⟩=>?_
 exact hf v u s2 x y H2 I2 r1 r2 q2
theorem Aj {op:Operator}{r:R2}(ho:C6 X (binaryOp op) r)(ha:PE X a ta)(hb:PE X b tb):PE X (.BinOp a op b pos) (tOp r ta tb):=by
 intro pins s σ H Q I h
 exact wpAny_BinOp (Ady ha hb I h fun v u s2 x y H2 I2 rx ry q=>ho pins s2 σ H2 x y v u Q I2 rx ry q)
theorem Vo {op:UnaryOp}{r:V→Hp→VK→Prop}(ho:UnR X (unaryOp op) r)(ha:PE X a ta):PE X (.UnaryOp op a pos) (tUn r ta):=by
 intro pins s σ H Q I h
 exact UnaryOp_ (Ba (ha pins s σ H _ I h) fun v s1 ⟨x,H1,I1,r1,q1⟩=>ho pins s1 σ H1 x v Q I1 r1 q1)
theorem opI {f:Value→Value→Sem Value}{C:Int→Int→Prop}{g:Int→Int→Int}
  (rule:∀(i j:Int) (t u:Tok) (s:Shared) (Q:Value→Shared→Prop) (E:Value→Shared→Prop),C i j→Q (.int (g i j) s.toks) { s with toks:=s.toks+1 }→wpAny (model X.prog X.w) X.A (f (.int i t) (.int j u)) Q E s) :
  C6 X f (rI C fun i j=>.int (g i j)):=by
 intro pins s σ H x y v u Q I rx ry h
 obtain ⟨i,j,rfl,rfl,hc,q⟩:=h
 obtain ⟨t,rfl⟩:=rx
 obtain ⟨t',rfl⟩:=ry
 exact rule i j t t' s _ _ hc ⟨.int (g i j),H,I.tok _,⟨_,rfl⟩,q⟩
theorem Ahi {f:Value→Value→Sem Value}{g:Int→Int→Int}
  (rule:∀(i j:Int) (t u:Tok) (s:Shared) (Q:Value→Shared→Prop) (E:Value→Shared→Prop),Q (.int (g i j) s.toks) { s with toks:=s.toks+1 }→wpAny (model X.prog X.w) X.A (f (.int i t) (.int j u)) Q E s) :
  C6 X f (rI0 fun i j=>.int (g i j)):=by
 intro pins s σ H x y v u Q I rx ry h
 obtain ⟨i,j,rfl,rfl,q⟩:=h
 obtain ⟨t,rfl⟩:=rx
 obtain ⟨t',rfl⟩:=ry
 exact rule i j t t' s _ _ ⟨.int (g i j),H,I.tok _,⟨_,rfl⟩,q⟩
theorem Ae2 {f:Value→Value→Sem Value}{g:Int→Int→Bool}
  (rule:∀(i j:Int) (t u:Tok) (s:Shared) (Q:Value→Shared→Prop) (E:Value→Shared→Prop),Q (.bool (g i j)) s→wpAny (model X.prog X.w) X.A (f (.int i t) (.int j u)) Q E s) :
  C6 X f (rI0 fun i j=>.bl (g i j)):=by
 intro pins s σ H x y v u Q I rx ry h
 obtain ⟨i,j,rfl,rfl,q⟩:=h
 obtain ⟨t,rfl⟩:=rx
 obtain ⟨t',rfl⟩:=ry
 exact rule i j t t' s _ _ ⟨.bl (g i j),H,I,rfl,q⟩
def Ahs (i j:Int):Prop:=0≤j∧j≤1000000∧i.natAbs<2 ^ 64
def Aep (i j:Int):Prop:=(-(2 ^ 64)<i∧i<2 ^ 64)∨(-(2 ^ 64)<j∧j<2 ^ 64)
theorem Aep.ok {i j:Int}(h:Aep i j):IntMulOk i j:=by
 rcases h with ⟨h1,h2⟩|⟨h1,h2⟩
 ·exact .of_left (intBits_le_64 h1 h2)
 ·exact .of_right (intBits_le_64 h1 h2)
theorem Ad2:C6 X (binaryOp .Add) (rI0 fun i j=>.int (i+j)):=Ahi fun _ _ _ _ _ _ _ q=>add_int q
theorem Aer:C6 X (binaryOp .Sub) (rI0 fun i j=>.int (i-j)):=Ahi fun _ _ _ _ _ _ _ q=>sub_int q
theorem Af3:C6 X (binaryOp .Mod) (rI (fun _ j=>0<j) fun i j=>.int (i % j)):=opI fun i j _ _ _ _ _ hc q=>by
 have h1:(0:Int)<j:=hc
 exact mod_int' (by omega) (by rw [Int.fmod_eq_emod_of_nonneg i (by omega)];exact q)
theorem Aca:C6 X (binaryOp .Mod) (rI (fun _ j=>j≠0) fun i j=>.int (i.fmod j)):=opI fun _ _ _ _ _ _ _ hc q=>mod_int' hc q
theorem Agn:C6 X (binaryOp .Pow) (rI Ahs fun i j=>.int (i ^ j.toNat)):=opI fun _ _ _ _ _ _ _ hc q=>pow_int_small hc.1 hc.2.1 hc.2.2 q
theorem unI {f:Value→Sem Value}{g:Int→Int}
  (rule:∀(i:Int) (t:Tok) (s:Shared) (Q:Value→Shared→Prop) (E:Value→Shared→Prop),Q (.int (g i) s.toks) { s with toks:=s.toks+1 }→wpAny (model X.prog X.w) X.A (f (.int i t)) Q E s) :
  UnR X f (rU fun i=>.int (g i)):=by
 intro pins s σ H x v Q I rx h
 obtain ⟨i,rfl,q⟩:=h
 obtain ⟨t,rfl⟩:=rx
 exact rule i t s _ _ ⟨.int (g i),H,I.tok _,⟨_,rfl⟩,q⟩
theorem Afn:UnR X (unaryOp .USub) (rU fun i=>.int (-i)):=unI fun _ _ _ _ _ q=>neg_int q
end
def Aht:V→V→Bool
 |.non,.non=>true|.non,.int _=>true|.int _,.non=>true|.non,.bl _=>true|.bl _,.non=>true|.non,.str _=>true|.str _,.non=>true
 |.int _,.int _=>true|.bl _,.bl _=>true|.str _,.str _=>true|.byt _,.byt _=>true
 |.int _,.str _=>true|.str _,.int _=>true|.bl _,.str _=>true|.str _,.bl _=>true
 |_,_=>false
def rEq:R2:=fun x y H Q=>Aht x y=true∧Q (.bl (decide (x=y))) H
def rNe:R2:=fun x y H Q=>Aht x y=true∧Q (.bl (!decide (x=y))) H
theorem U6 {i j:Int}:decide (V.int i=V.int j)=(i==j):=by
 rw [Bool.eq_iff_iff]
 simp
theorem Qf {i j:Bool}:decide (V.bl i=V.bl j)=(i==j):=by
 rw [Bool.eq_iff_iff]
 simp
theorem Vk {i j:Str}:decide (V.str i=V.str j)=(i==j):=by
 rw [Bool.eq_iff_iff]
 simp
theorem Ut {i j:Array UInt8}:decide (V.byt i=V.byt j)=(i.toList==j.toList):=by
 rw [Bool.eq_iff_iff]
 cases i
 cases j
 simp
section
variable {X:Cx}{a b c:Expr}{ta tb tc:TE}{pos:Pos}
theorem A7 {pins:List (Addr×Obj)}{σ:St}{H:Hp}{s:Shared}{Q:VK}{k k':Bool}(I:Ap X pins σ H s)(q:Q (.bl k) H)(e:k=k'):EP X pins σ Q (.bool k') s:=by
 subst e
 exact ⟨.bl k,H,I,rfl,q⟩
theorem Aix:C6 X (compareOp .Eq) rEq:=by
 intro pins s σ H x y v u Q I rx ry h
 obtain ⟨hs,q⟩:=h
 cases x with
 |non=>
  cases rx
  cases y with
  |non=>cases ry;exact PySem.EqNone.eq_none_none (A7 I q (by simp))
  |bl j=>cases ry;exact PySem.EqNone.eq_none_bool (A7 I q (by simp))
  |int j=>obtain ⟨t',rfl⟩:=ry;exact PySem.EqNone.eq_none_int (A7 I q (by simp))
  |str j=>obtain ⟨t',rfl⟩:=ry;exact PySem.EqNone.eq_none_str (A7 I q (by simp))
  |_=>exact absurd (show false=true from hs) Bool.false_ne_true
 |bl i=>
  cases rx
  cases y with
  |non=>cases ry;exact PySem.EqNone.eq_bool_none (A7 I q (by simp))
  |bl j=>cases ry;exact eq_bool (A7 I q Qf)
  |str j=>obtain ⟨t',rfl⟩:=ry;exact PySem.EqMixed.eq_bool_str (A7 I q (by simp))
  |_=>exact absurd (show false=true from hs) Bool.false_ne_true
 |int i=>
  obtain ⟨t,rfl⟩:=rx
  cases y with
  |non=>cases ry;exact PySem.EqNone.eq_int_none (A7 I q (by simp))
  |int j=>obtain ⟨t',rfl⟩:=ry;exact eq_int (A7 I q U6)
  |str j=>obtain ⟨t',rfl⟩:=ry;exact PySem.EqMixed.eq_int_str (A7 I q (by simp))
  |_=>exact absurd (show false=true from hs) Bool.false_ne_true
 |str i=>
  obtain ⟨t,rfl⟩:=rx
  cases y with
  |non=>cases ry;exact PySem.EqNone.eq_str_none (A7 I q (by simp))
  |bl j=>cases ry;exact PySem.EqMixed.eq_str_bool (A7 I q (by simp))
  |int j=>obtain ⟨t',rfl⟩:=ry;exact PySem.EqMixed.eq_str_int (A7 I q (by simp))
  |str j=>obtain ⟨t',rfl⟩:=ry;exact eq_str (A7 I q Vk)
  |_=>exact absurd (show false=true from hs) Bool.false_ne_true
 |byt i=>
  obtain ⟨t,rfl⟩:=rx
  cases y with
  |byt j=>obtain ⟨t',rfl⟩:=ry;exact PySem.W.eq_bytes (A7 I q Ut)
  |_=>exact absurd (show false=true from hs) Bool.false_ne_true
 |_=>cases y<;>exact absurd (show false=true from hs) Bool.false_ne_true
theorem Aiz:C6 X (compareOp .NotEq) rNe:=by
 intro pins s σ H x y v u Q I rx ry h
 obtain ⟨hs,q⟩:=h
 cases x with
 |non=>
  cases rx
  cases y with
  |non=>cases ry;exact PySem.EqNone.ne_none_none (A7 I q (by simp))
  |bl j=>cases ry;exact PySem.EqNone.ne_none_bool (A7 I q (by simp))
  |int j=>obtain ⟨t',rfl⟩:=ry;exact PySem.EqNone.ne_none_int (A7 I q (by simp))
  |str j=>obtain ⟨t',rfl⟩:=ry;exact PySem.EqNone.ne_none_str (A7 I q (by simp))
  |_=>exact absurd (show false=true from hs) Bool.false_ne_true
 |bl i=>
  cases rx
  cases y with
  |non=>cases ry;exact PySem.EqNone.ne_bool_none (A7 I q (by simp))
  |bl j=>cases ry;exact ne_bool (A7 I q (congrArg not Qf))
  |str j=>obtain ⟨t',rfl⟩:=ry;exact PySem.EqMixed.ne_bool_str (A7 I q (by simp))
  |_=>exact absurd (show false=true from hs) Bool.false_ne_true
 |int i=>
  obtain ⟨t,rfl⟩:=rx
  cases y with
  |non=>cases ry;exact PySem.EqNone.ne_int_none (A7 I q (by simp))
  |int j=>obtain ⟨t',rfl⟩:=ry;exact ne_int (A7 I q (congrArg not U6))
  |str j=>obtain ⟨t',rfl⟩:=ry;exact PySem.EqMixed.ne_int_str (A7 I q (by simp))
  |_=>exact absurd (show false=true from hs) Bool.false_ne_true
 |str i=>
  obtain ⟨t,rfl⟩:=rx
  cases y with
  |non=>cases ry;exact PySem.EqNone.ne_str_none (A7 I q (by simp))
  |bl j=>cases ry;exact PySem.EqMixed.ne_str_bool (A7 I q (by simp))
  |int j=>obtain ⟨t',rfl⟩:=ry;exact PySem.EqMixed.ne_str_int (A7 I q (by simp))
  |str j=>obtain ⟨t',rfl⟩:=ry;exact ne_str (A7 I q (congrArg not Vk))
  |_=>exact absurd (show false=true from hs) Bool.false_ne_true
 |byt i=>
  obtain ⟨t,rfl⟩:=rx
  cases y with
  |byt j=>obtain ⟨t',rfl⟩:=ry;exact PySem.W.ne_bytes (A7 I q (congrArg not Ut))
  |_=>exact absurd (show false=true from hs) Bool.false_ne_true
 |_=>cases y<;>exact absurd (show false=true from hs) Bool.false_ne_true
theorem Ahg:C6 X (compareOp .Lt) (rI0 fun i j=>.bl (decide (i<j))):=Ae2 fun _ _ _ _ _ _ _ q=>lt_int q
theorem Ah4:C6 X (compareOp .LtE) (rI0 fun i j=>.bl (decide (i≤j))):=Ae2 fun _ _ _ _ _ _ _ q=>le_int q
theorem Ah9:C6 X (compareOp .Gt) (rI0 fun i j=>.bl (decide (j<i))):=Ae2 fun _ _ _ _ _ _ _ q=>gt_int q
theorem A1 (b:Expr){op:CmpOp}(h:op≠.In:=by decide)(h2:op≠.NotIn:=by decide):behindInMarks op b=false:=by
 have e1:(op==CmpOp.In)=false:=by cases op<;>first|rfl|exact absurd rfl h
 have e2:(op==CmpOp.NotIn)=false:=by cases op<;>first|rfl|exact absurd rfl h2
 cases b<;>simp [behindInMarks,e1,e2]
theorem Bo {op:CmpOp}{r:R2}(ho:C6 X (compareOp op) r)(ha:PE X a ta)(hb:PE X b tb)(hm:behindInMarks op b=false):PE X (.Compare a [op] [b] pos) (tOp r ta tb):=by
 intro pins s σ H Q I h
 exact wpAny_Compare1 (Ady ha hb I h fun v u s2 x y H2 I2 rx ry q=>ho pins s2 σ H2 x y v u Q I2 rx ry q) hm
def Vp (t:TE):TT:=fun σ H Q=>t σ H fun x H'=>∃k,x=.bl k∧Q k H'
theorem Aa5 {op:CmpOp}{r:R2}(ho:C6 X (compareOp op) r)(ha:PE X a ta)(hb:PE X b tb)(hm:behindInMarks op b=false):PT X (.Compare a [op] [b] pos) (Vp (tOp r ta tb)):=by
 intro pins s σ H Q I h
 refine wpAny_isTrue_Compare1 (Ba (ha pins s σ H _ I h) fun v s1 ⟨x,H1,I1,r1,q1⟩=>Ba (hb pins s1 σ H1 _ I1 q1) fun u s2 ⟨y,H2,I2,r2,q2⟩=>
  Ba (ho pins s2 σ H2 x y v u _ I2 r1 r2 q2) fun c s3 ⟨z,H3,I3,r3,k,e,q3⟩=>?_) hm
 subst e
 cases r3
 exact wpAny_truthy_bool ⟨H3,I3,q3⟩
def Qp (r r':R2)(ta tb tc:TE):TE:=fun σ H Q=>ta σ H fun x H1=>tb σ H1 fun y H2=>r x y H2 fun z H3=>∃k,z=.bl k ∧
 (if k=true then tc σ H3 fun w' H4=>r' y w' H4 Q else Q (.bl false) H3)
theorem Yu {op op':CmpOp}{r r':R2}(ho:C6 X (compareOp op) r)(ho':C6 X (compareOp op') r')(ha:PE X a ta)(hb:PE X b tb)(hc:PE X c tc)
  (hm:lastMarks [op,op'] [b,c]=false:=by with_unfolding_all rfl):PE X (.Compare a [op,op'] [b,c] pos) (Qp r r' ta tb tc):=by
 intro pins s σ H Q I h
 refine Compare_chain (Ba (ha pins s σ H _ I h) fun v s1 ⟨x,H1,I1,r1,q1⟩=>chain_link (Ba (hb pins s1 σ H1 _ I1 q1) fun u s2 ⟨y,H2,I2,r2,q2⟩=>
  Ba (ho pins s2 σ H2 x y v u _ I2 r1 r2 q2) fun d s3 ⟨z,H3,I3,r3,k,e,q3⟩=>?_)) hm
 subst e
 cases r3
 refine wpAny_truthy_bool ?_
 cases k with
 |false=>exact ite_ff ⟨.bl false,H3,I3,rfl,q3⟩
 |true=>exact ite_tt (chain_last (Ba (hc pins s3 σ H3 _ I3 q3) fun w' s4 ⟨z',H4,I4,r4,q4⟩=>ho' pins s4 σ H4 y z' u w' Q I4 r2 r4 q4))
theorem Aar {op op':CmpOp}{r r':R2}(ho:C6 X (compareOp op) r)(ho':C6 X (compareOp op') r')(ha:PE X a ta)(hb:PE X b tb)(hc:PE X c tc)
  (hm:lastMarks [op,op'] [b,c]=false:=by with_unfolding_all rfl):PT X (.Compare a [op,op'] [b,c] pos) (Vp (Qp r r' ta tb tc)):=by
 intro pins s σ H Q I h
 refine isTrue_chain (Ba (ha pins s σ H _ I h) fun v s1 ⟨x,H1,I1,r1,q1⟩=>test_link (Ba (hb pins s1 σ H1 _ I1 q1) fun u s2 ⟨y,H2,I2,r2,q2⟩=>
  Ba (ho pins s2 σ H2 x y v u _ I2 r1 r2 q2) fun d s3 ⟨z,H3,I3,r3,k,e,q3⟩=>?_)) hm
 subst e
 cases r3
 refine wpAny_truthy_bool ?_
 cases k with
 |false=>
  obtain ⟨k',e',q'⟩:=q3
  cases e'
  exact ite_ff ⟨H3,I3,q'⟩
 |true=>
  refine ite_tt (test_last (Ba (hc pins s3 σ H3 _ I3 q3) fun w' s4 ⟨z',H4,I4,r4,q4⟩=>Ba (ho' pins s4 σ H4 y z' u w' _ I4 r2 r4 q4) fun d' s5 ⟨z2,H5,I5,r5,k2,e2,q5⟩=>?_))
  subst e2
  cases r5
  exact wpAny_truthy_bool ⟨H5,I5,q5⟩
theorem J0:(sizeLine:Nat)<2 ^ 63:=by rw [sizeLine_eq];decide
theorem Uf:C6 X (binaryOp .Add) (fun x y H Q=>∃i j,x=.str i∧y=.str j∧i.length+j.length≤sizeLine∧Q (.str (i++j)) H):=by
 intro pins s σ H x y v u Q I rx ry h
 obtain ⟨i,j,rfl,rfl,hz,q⟩:=h
 obtain ⟨t,rfl⟩:=rx
 obtain ⟨t',rfl⟩:=ry
 exact add_str (fun t' tk=>⟨.str (i++j),H,I.tok _,⟨_,rfl⟩,q⟩) hz
theorem Jh {x:V}{us:List Value}(r:Az [x] us):∃u,us=[u]∧RelV x u:=by
 cases r with
 |cons r1 r2=>cases r2;exact ⟨_,rfl,r1⟩
theorem Fi {x y:V}{us:List Value}(r:Az [x,y] us):∃u w',us=[u,w']∧RelV x u∧RelV y w':=by
 cases r with
 |cons r1 r2=>
  cases r2 with
  |cons r3 r4=>cases r4;exact ⟨_,_,rfl,r1,r3⟩
theorem Aac:B6 X (.builtin "abs") (fun xs H Q=>∃i,xs=[.int i]∧Q (.int (if i<0 then -i else i)) H):=by
 intro pins s σ H xs us Q I r h
 obtain ⟨i,rfl,q⟩:=h
 obtain ⟨u,rfl,t,rfl⟩:=Jh r
 exact call_abs_int fun u tk=>⟨.int (if i<0 then -i else i),H,I.tok _,⟨_,rfl⟩,q⟩
theorem Nv (hc:X.calm=true):B6 X (.builtin "max") (fun xs H Q=>∃i j,xs=[.int i,.int j]∧Q (.int (if j>i then j else i)) H):=by
 intro pins s σ H xs us Q I r h
 obtain ⟨i,j,rfl,q⟩:=h
 obtain ⟨u,w',rfl,⟨t,rfl⟩,⟨t',rfl⟩⟩:=Fi r
 refine max_two_ints (I.ok.hd hc) fun h' tk k=>⟨_,H,I.kept k,?_,q⟩
 by_cases hj:j>i
 ·rw [if_pos hj,if_pos hj];exact ⟨_,rfl⟩
 ·rw [if_neg hj,if_neg hj];exact ⟨_,rfl⟩
theorem Om (hc:X.calm=true):B6 X (.builtin "min") (fun xs H Q=>∃i j,xs=[.int i,.int j]∧Q (.int (if j<i then j else i)) H):=by
 intro pins s σ H xs us Q I r h
 obtain ⟨i,j,rfl,q⟩:=h
 obtain ⟨u,w',rfl,⟨t,rfl⟩,⟨t',rfl⟩⟩:=Fi r
 refine min_two_ints (I.ok.hd hc) fun h' tk k=>⟨_,H,I.kept k,?_,q⟩
 by_cases hj:j<i
 ·rw [if_pos hj,if_pos hj];exact ⟨_,rfl⟩
 ·rw [if_neg hj,if_neg hj];exact ⟨_,rfl⟩
end
end L2
namespace L2
open PySem PySem.Spec PyProof.Rows
structure Um (h:Heap)(x dx C:Addr)(mA:Str→Option Value):Prop where
 obj:h.get? x=some (PySem.W.instObj C dx)
 ns:h.Ns1 dx mA
 ne:dx≠x
theorem V9 {h:Heap}{dx:Addr}{mA:Str→Option Value}(n:h.Ns1 dx mA):∃od,h.get? dx=some od∧∀name,PySem.W.lookIn name od=some (mA name):=by
 obtain ⟨o,es,ep,ho,hd,hk,_,hm⟩:=n
 refine ⟨o,ho,fun name=>?_⟩
 have e:=hm name
 unfold nsFind findBy at e
 rw [←Array.find?_toList] at e
 unfold PySem.W.lookIn
 rw [hd]
 dsimp only
 split
 ·rename_i y q
  rw [q] at e
  exact congrArg some e
 ·rename_i q
  rw [q] at e
  have a:es.toList.any (·.refKey)=false:=by
   rw [List.any_eq_false]
   intro y hy
   obtain ⟨z,t,hkey⟩:=hk y (Array.mem_toList_iff.mp hy)
   simp [DictEntry.refKey,hkey]
  have a':¬es.toList.any (·.refKey)=true:=by rw [a];exact Bool.false_ne_true
  rw [if_neg a']
  exact congrArg some e
theorem Um.look {h:Heap}{x dx C:Addr}{mA:Str→Option Value}(I:Um h x dx C mA):∃od,PySem.W.InstAt h x (PySem.W.instObj C dx) C (some od)∧∀name,PySem.W.lookIn name od=some (mA name):=
 let ⟨od,ho,hl⟩:=V9 I.ns
 ⟨od,⟨I.obj,rfl,rfl,ho⟩,hl⟩
section
variable {prog:Program}{w:World}{A:Around}{E:Value→Shared→Prop}{s:Shared}{K:PySem.W.Frag}{x dx C f:Addr}{mA:Str→Option Value}{name:Str}{v:Value}
theorem Abn {expr:Bool}{Q:Value→Shared→Prop}(X:K.In s.heap)(I:Um s.heap x dx C mA)(hg:PySem.W.plainGet K C name=true)(hh:PySem.W.hasDictIn K C=true)
  (ha:PySem.W.findIn K (.ref C) name=some none) (hv:mA name=some v) (hv':PySem.W.handedIn v=true) (h:Q v { s with toks:=s.toks+1 }) :
  wpAny (model prog w) A (getAttr (.ref x) name expr) Q E s:=by
 obtain ⟨od,J,hl⟩:=I.look
 exact PySem.W.get_value X J (PySem.W.plainGet_of hg).1 (PySem.W.findObj_own hh ha rfl (by rw [hl,hv])) hv' h
theorem Xq {pl:Sem Bool}{Q:Value×List Value→Shared→Prop}(X:K.In s.heap)(I:Um s.heap x dx C mA)(hg:PySem.W.plainGet K C name=true)
  (hf:PySem.W.findIn K (.ref C) name=some (some (.ref f))) (ht:PySem.W.isFn K (.ref f)=true) (hv:mA name=none) (h:Q (.ref f,[.ref x]) s) :
  wpAny (model prog w) A (getMethod (.ref x) name pl) Q E s:=by
 obtain ⟨od,J,hl⟩:=I.look
 exact PySem.W.method_fn X J (PySem.W.plainGet_of hg).1 (PySem.W.plainGet_of hg).2 hf (beq_iff_eq.mp ht) (by show (PySem.W.lookIn name od).map (·.isSome)=some false;rw [hl,hv];rfl) h
theorem Acd {ns:List Str}{Q:Unit→Shared→Prop}(X:K.In s.heap)(I:Um s.heap x dx C mA)
  (hs:PySem.W.findIn K (.ref C) "__setattr__"=some (some (.builtin "object.__setattr__"))) (hp:PySem.W.plainOver K C=true) (ht:PySem.W.takerIn K C name=some none) (hh:PySem.W.hasDictIn K C=true)
  (hw:PySem.Within mA ns) (hsz:ns.length≤sizeLine)
  (h:∀h',Um h' x dx C (fun y=>if y=name then some v else mA y)→Heap.SameBut dx s.heap h'→Q () { s with heap:=h',toks:=s.toks+2 }) :
  wpAny (model prog w) A (setAttr (.ref x) name v) Q E s:=by
 obtain ⟨od,J,hl⟩:=I.look
 refine PySem.W.set_plain X J hs (PySem.W.osa_open (s:={ s with toks:=s.toks+1 }) (r:=none) X J hp ht fun b=>?_)
 obtain ⟨cd,hc,hd'⟩:=PySem.W.any_some hh
 have hx:s.heap.get? x=some ⟨.ref C,some dx,.plain,#[]⟩:=I.obj
 refine wpAny_bind (wpAny_pure (wpAny_bind (wpAny_bind (wpAny_loadPart hx (wpAny_bind (PySem.W.Looks.here (s:={ s with toks:=s.toks+1 }) (PySem.W.looks_clsIn X hc) ?_))))))
 rw [hd']
 refine wpAny_pure (a:=some dx) (wpAny_bind (wpAny_pure (wpAny_bind ?_)))
 refine wpAny_nsSet1 (s:={ s with toks:=s.toks+1 }) I.ns fun h' hn2 hs2=>?_
 obtain ⟨oD,esD,epD,hoD,hdD,hcD⟩:=hn2.count (PySem.Within.cons name v hw)
 refine wpAny_bind (wpAny_lookBehind hoD (by rw [hdD];exact pastItsLine_dict (Nat.le_trans hcD (by rw [List.length_cons];omega))) ?_)
 exact wpAny_pure (h _ ⟨(hs2.2 _ (Ne.symm I.ne)).trans I.obj,hn2,I.ne⟩ hs2)
theorem Aae {R:Result→Shared→Prop}{vs:List Value}{kw:List (Str×Value)}(X:K.In s.heap)(hm:PySem.W.makesIn K C=true)
  (hi:PySem.W.findIn K (.ref C) "__init__"=some (some (.ref f))) (hf:PySem.W.typeIn K (.ref f)=some (.type "function"))
  (h:codeAny (model prog w) (A.under (.builtin "type.__call__" ⟨.ref C::vs,kw⟩)) (.call (.ref f) ⟨.ref (s.heap.objs.size+1)::vs,kw⟩) (PySem.W.InitBack (s.heap.objs.size+1) R)
   { s with heap:=(s.heap.push PySem.W.emptyDict).push (PySem.W.instObj C s.heap.objs.size) }) :
  codeAny (model prog w) A (.call (.ref C) ⟨vs,kw⟩) R s:=by
 obtain ⟨hh,g,d,t,os⟩:=s
 exact PySem.W.make_core (PySem.W.makes_of X hm) (PySem.W.looks_findIn X hi) (fun self=>PySem.W.bind_fn X self hf) (.inl rfl) h
end
def A8 (f:Str)(v:V):List (Str×V)→List (Str×V)
 |[]=>[(f,v)]
 |(g,x)::r=>if g=f then (g,v)::r else (g,x)::A8 f v r
theorem Ew (f g:Str)(v:V):∀fs:List (Str×V),(A8 f v fs).lookup g=if g=f then some v else fs.lookup g
 | []=>by
  show List.lookup g [(f,v)]=_
  by_cases h:g=f
  ·have hb:(g==f)=true:=beq_iff_eq.mpr h
   simp only [List.lookup,hb,if_pos h]
  ·have hb:(g==f)=false:=beq_eq_false_iff_ne.mpr h
   simp only [List.lookup,hb,if_neg h]
 | (k,x)::r=>by
  have ih:=Ew f g v r
  rw [show A8 f v ((k,x)::r)=(if k=f then (k,v)::r else (k,x)::A8 f v r) from rfl]
  by_cases hk:k=f
  ·rw [if_pos hk]
   by_cases h:g=k
   ·have hb:(g==k)=true:=beq_iff_eq.mpr h
    simp only [List.lookup,hb,if_pos (h.trans hk)]
   ·have hb:(g==k)=false:=beq_eq_false_iff_ne.mpr h
    simp only [List.lookup,hb,if_neg (fun e:g=f=>h (e.trans hk.symm))]
  ·rw [if_neg hk]
   by_cases h:g=k
   ·have hb:(g==k)=true:=beq_iff_eq.mpr h
    simp only [List.lookup,hb,if_neg (fun e:g=f=>hk (h.symm.trans e))]
   ·have hb:(g==k)=false:=beq_eq_false_iff_ne.mpr h
    simp only [List.lookup,hb]
    exact ih
theorem Jn (f:Str)(v:V):∀fs:List (Str×V),f∈(A8 f v fs).map (·.1)∧∀g,g∈fs.map (·.1)→g∈(A8 f v fs).map (·.1)
 |[]=>⟨by simp [A8],fun g h=>by simp at h⟩
 | (k,x)::r=>by
  obtain ⟨i1,i2⟩:=Jn f v r
  rw [show A8 f v ((k,x)::r)=(if k=f then (k,v)::r else (k,x)::A8 f v r) from rfl]
  by_cases hk:k=f
  ·rw [if_pos hk]
   subst hk
   exact ⟨by simp,fun g h=>by simpa using h⟩
  ·rw [if_neg hk]
   refine ⟨?_,fun g h=>?_⟩
   ·rw [List.map_cons]
    exact List.mem_cons_of_mem _ i1
   ·rw [List.map_cons] at h ⊢
    rcases List.mem_cons.mp h with e|e
    ·exact List.mem_cons.mpr (.inl e)
    ·exact List.mem_cons_of_mem _ (i2 g e)
theorem Ca (f:Str)(v:V):∀fs:List (Str×V),(A8 f v fs).length≤fs.length+1
 |[]=>by simp [A8]
 |(k,x)::r=>by
  have ih:=Ca f v r
  rw [show A8 f v ((k,x)::r)=(if k=f then (k,v)::r else (k,x)::A8 f v r) from rfl]
  by_cases hk:k=f
  ·rw [if_pos hk,List.length_cons,List.length_cons];omega
  ·rw [if_neg hk,List.length_cons,List.length_cons];omega
theorem F0.some_of {v:V}{o:Option Value}(r:F0 (some v) o):∃u,o=some u∧RelV v u:=by
 cases o with
 |none=>exact (show False from r).elim
 |some u=>exact ⟨u,rfl,r⟩
theorem F0.none_of {o:Option Value}(r:F0 none o):o=none:=by
 cases o with
 |none=>rfl
 |some u=>exact (show False from r).elim
theorem Xd {v:V}{u:Value}(r:RelV v u):PySem.W.handedIn u=true:=by
 cases v with
 |non=>cases (show u=Value.none from r);rfl
 |bl b=>cases (show u=Value.bool b from r);rfl
 |int i=>obtain ⟨t,e⟩:=(show ∃t,u=Value.int i t from r);cases e;rfl
 |str x=>obtain ⟨t,e⟩:=(show ∃t,u=Value.str x t from r);cases e;rfl
 |byt b=>obtain ⟨t,e⟩:=(show ∃t,u=Value.bytes b t from r);cases e;rfl
 |flt b=>obtain ⟨t,e⟩:=(show ∃t,u=Value.float b t from r);cases e;rfl
 |ref a=>cases (show u=Value.ref a from r);rfl
 |ty n=>cases (show u=Value.type n from r);rfl
section
variable {P:Program}{w:World}{H H':Hp}{h h':Heap}{a C dx:Addr}{fs fs':List (Str×V)}
theorem Lg (hok:G9 P w H h)(e:H a=some (.ins C dx fs)):∃mA,Um h a dx C mA∧(∀f,F0 (fs.lookup f) (mA f))∧PySem.Within mA (fs.map (·.1))∧fs.length≤1000∧H dx=some (.own a):=by
 obtain ⟨d,z,ne,ob,mA,n,r,q⟩:=(show A4 P w H h a (.ins C dx fs) from hok a _ e)
 exact ⟨mA,⟨ob,n,ne⟩,r,q,z,d⟩
end
structure M8 (K:PySem.W.Frag)(C:Addr):Prop where
 pg:PySem.W.plainGet K C Str.empty=true
 hd:PySem.W.hasDictIn K C=true
 po:PySem.W.plainOver K C=true
 sa:PySem.W.findIn K (.ref C) "__setattr__"=some (some (.builtin "object.__setattr__"))
theorem M8.get {K:PySem.W.Frag}{C:Addr}(c:M8 K C)(f:Str):PySem.W.plainGet K C f=true:=c.pg
def NoAttr (K:PySem.W.Frag)(C:Addr)(f:Str):Prop:=PySem.W.findIn K (.ref C) f=some none
theorem NoAttr.taker {K:PySem.W.Frag}{C:Addr}{f:Str}(n:NoAttr K C f):PySem.W.takerIn K C f=some none:=by
 unfold PySem.W.takerIn
 rw [show PySem.W.findIn K (.ref C) f=some none from n]
 rfl
structure Con (K:PySem.W.Frag)(C:Addr)(f:Str)(v:V)(u:Value):Prop where
 at_:PySem.W.findIn K (.ref C) f=some (some u)
 rel:RelV v u
 get:PySem.W.specialIn K u "__get__"=some none
 cp:PySem.W.copiedNames.contains f=false
structure Aak (K:PySem.W.Frag)(C:Addr)(m:Str)(f:Addr):Prop where
 at_:PySem.W.findIn K (.ref C) m=some (some (.ref f))
 fn:PySem.W.isFn K (.ref f)=true
 kp:PySem.W.keepIn K (.ref f)=true
section
variable {X:Cx}{pins:List (Addr×Obj)}{σ:St}{H:Hp}{s:Shared}{a C dx:Addr}{fs:List (Str×V)}{f:Str}{v:V}{A:Around}{E:Value→Shared→Prop}
theorem Tf {b:Bool}{Q:Value→Shared→Prop}(I:Ap X pins σ H s)(e:H a=some (.ins C dx fs))(c:M8 X.K C)(n:NoAttr X.K C f)(l:fs.lookup f=some v)
  (h:∀u s',Ap X pins σ H s'→RelV v u→Q u s'):wpAny (model X.prog X.w) A (getAttr (.ref a) f b) Q E s:=by
 obtain ⟨mA,O,r,_,_,_⟩:=Lg I.hok e
 obtain ⟨u,hu,ru⟩:=F0.some_of (v:=v) (o:=mA f) (by rw [←l];exact r f)
 exact Abn I.kIn O (c.get f) c.hd n hu (Xd ru) (h u _ (I.tok _) ru)
theorem Hy {m:Str}{g:Addr}{pl:Sem Bool}{Q:Value×List Value→Shared→Prop}(I:Ap X pins σ H s)(e:H a=some (.ins C dx fs))(c:M8 X.K C)(k:Aak X.K C m g)(l:fs.lookup m=none)
  (h:Q (.ref g,[.ref a]) s):wpAny (model X.prog X.w) A (getMethod (.ref a) m pl) Q E s:=by
 obtain ⟨mA,O,r,_,_,_⟩:=Lg I.hok e
 have hn:mA m=none:=F0.none_of (by rw [←l];exact r m)
 exact Xq I.kIn O (c.get m) k.at_ k.fn hn h
theorem T5 {y:V}{u:Value}{Q:Unit→Shared→Prop}(I:Ap X pins σ H s)(e:H a=some (.ins C dx fs))(c:M8 X.K C)(n:NoAttr X.K C f)(hl:fs.length<1000)(ry:RelV y u)
  (h:∀s',Ap X pins σ (upd H a (.ins C dx (A8 f y fs))) s'→Q () s'):wpAny (model X.prog X.w) A (setAttr (.ref a) f u) Q E s:=by
 obtain ⟨mA,O,r,wi,_,ho⟩:=Lg I.hok e
 have hz:(fs.map (·.1)).length≤sizeLine:=by rw [List.length_map,sizeLine_eq];omega
 refine Acd I.kIn O c.sa c.po n.taker c.hd wi hz fun h' O' sb=>h _ ?_
 have hd:∃o,h'.get? dx=some o:=let ⟨o,_,_,e',_⟩:=O'.ns;⟨o,e'⟩
 refine I.write (x:=a) (e:=dx) (by rw [e];exact True.intro) (.inr ho) (fun b q hb z=>(sb.2 b hb).trans z) hd ?_
 refine ⟨by rw [Ak O.ne];exact ho,?_,O.ne,O'.obj,_,O'.ns,fun g=>?_,fun g hg=>?_⟩
 ·have:=Ca f y fs;omega
 ·show F0 ((A8 f y fs).lookup g) (if g=f then some u else mA g)
  rw [Ew]
  by_cases q:g=f
  ·rw [if_pos q,if_pos q];exact ry
  ·rw [if_neg q,if_neg q];exact r g
 ·by_cases q:g=f
  ·rw [q];exact (Jn f y fs).1
  ·refine (Jn f y fs).2 g (wi g fun z=>hg ?_)
   show (if g=f then some u else mA g)=none
   rw [if_neg q];exact z
theorem Ap.made (I:Ap X pins σ H s):Ap X pins σ (upd (upd H s.heap.objs.size (.own (s.heap.objs.size+1))) (s.heap.objs.size+1) (.ins C s.heap.objs.size []))
  { s with heap:=(s.heap.push PySem.W.emptyDict).push (PySem.W.instObj C s.heap.objs.size) }:=by
 have e1:(s.heap.push PySem.W.emptyDict).get? s.heap.objs.size=some PySem.W.emptyDict:=Heap.get?_push_size s.heap rfl
 have e2:((s.heap.push PySem.W.emptyDict).push (PySem.W.instObj C s.heap.objs.size)).get? (s.heap.objs.size+1)=some (PySem.W.instObj C s.heap.objs.size):=by
  have:=Heap.get?_push_size (s.heap.push PySem.W.emptyDict) (o:=PySem.W.instObj C s.heap.objs.size) rfl
  rwa [Heap.size_push] at this
 have e3:(s.heap.push PySem.W.emptyDict).Ns s.heap.objs.size (fun _=>none):=⟨PySem.W.emptyDict,#[],_,e1,rfl,(fun e he=>absurd he (by simp)),fun _=>rfl⟩
 have I1:=I.laid (a:=s.heap.objs.size) (o:=.own (s.heap.objs.size+1)) (h':=s.heap.push PySem.W.emptyDict) (t':=s.toks) (fun b u q=>Heap.get?_push_of_some _ q) (Nat.le_refl _) ⟨_,e1⟩
 refine I1.laid (a:=s.heap.objs.size+1) (o:=.ins C s.heap.objs.size []) (t':=s.toks) (fun b u q=>Heap.get?_push_of_some _ q) (Nat.le_of_eq (Heap.size_push _ _)) ?_
 have ne:s.heap.objs.size≠s.heap.objs.size+1:=Nat.ne_of_lt (Nat.lt_succ_self _)
 refine ⟨by rw [Ak ne,Ad],Nat.zero_le _,ne,e2,fun _=>none,(Heap.Ns1.of_empty e3).at fun o q=>Heap.get?_push_of_some _ q,fun _=>True.intro,fun y hy=>absurd rfl hy⟩
theorem Ab1 {prog:Program}{w:World}{env:Env}{e:Expr}{f:Str}{pos:Pos}{s:Shared}{Q:Value→Shared→Prop}(hb:attributeBase e f env (eval e env)=eval e env)
  (h:wpAny (model prog w) A (eval e env) (fun o s₁=>wpAny (model prog w) A (getAttr o f true) Q E s₁) E s):wpAny (model prog w) A (eval (.Attribute e f pos) env) Q E s:=
 Attribute_any_ h (by rw [arm_eval_Attribute,hb])
end
def Akl (K:PySem.W.Frag)(ta:TE)(f:Str):TE:=fun σ H Q=>ta σ H fun x H1=>∃a C dx fs v,x=.ref a∧H1 a=some (.ins C dx fs)∧M8 K C∧NoAttr K C f∧fs.lookup f=some v∧Q v H1
def Alc (K:PySem.W.Frag)(ta tv:TE)(f:Str):TS:=fun D σ H=>tv σ H fun y H1=>ta σ H1 fun x H2=>∃a C dx fs,x=.ref a∧H2 a=some (.ins C dx fs)∧M8 K C∧NoAttr K C f∧fs.length<1000 ∧
 D.nx σ (upd H2 a (.ins C dx (A8 f y fs)))
section
variable {X:Cx}{o e value:Expr}{f:Str}{pos pos' tpos:Pos}{ta tv:TE}
theorem Bz (he:PE X e ta)(hb:attributeBase e f X.env (eval e X.env)=eval e X.env):PE X (.Attribute e f pos) (Akl X.K ta f):=by
 intro pins s σ H Q I h
 refine Ab1 hb (Ba (he pins s σ H _ I h) fun u s1 ⟨x,H1,I1,rx,a,C,dx,fs,v,ex,ea,c,n,l,q⟩=>?_)
 subst ex
 obtain rfl:u=Value.ref a:=rx
 exact Tf I1 ea c n l fun u' s2 I2 ru=>⟨v,H1,I2,ru,q⟩
theorem Hu (ha:PE X o ta)(hv:PE X value tv)(hs:swapsWith value (some (.Attribute o f pos')) pos.line X.env=pure false):PS X (.Assign [.Attribute o f pos'] value pos) (Alc X.K ta tv f):=by
 intro pins s σ H D I h
 refine plainObj_wpAny_Assign_Attribute (Ba (hv pins s σ H _ I h) fun u s1 ⟨y,H1,I1,ry,q⟩=>Ba (ha pins s1 σ H1 _ I1 q) fun ov s2 ⟨x,H2,I2,rx,a,C,dx,fs,ex,ea,c,n,l,q2⟩=>?_) hs
 subst ex
 obtain rfl:ov=Value.ref a:=rx
 exact T5 I2 ea c n l ry fun s3 I3=>⟨σ,_,I3,q2⟩
end
section
variable {X:Cx}{pins:List (Addr×Obj)}{σ:St}{H:Hp}{s:Shared}{A:Around}{E:Value→Shared→Prop}{Q:Value→Shared→Prop}{c:Value}{b:Bool}
inductive Ke (K:PySem.W.Frag)(H:Hp):V→Value→Prop where
 |non:Ke K H .non (.type "NoneType")
 |bl (x:Bool):Ke K H (.bl x) (.type "bool")
 |int (i:Int):Ke K H (.int i) (.type "int")
 |str (x:Str):Ke K H (.str x) (.type "str")
 |flt (x:UInt64):Ke K H (.flt x) (.type "float")
 |lst {a:Addr} {xs:List V} (e:H a=some (.lst xs)):Ke K H (.ref a) (.type "list")
 |frz {a:Addr} {o:Obj} {xs:List V} (e:H a=some (.frz o (.lst xs))):Ke K H (.ref a) (.type "list")
 |tup {a:Addr} {xs:List V} (e:H a=some (.tup xs)):Ke K H (.ref a) (.type "tuple")
 |dK {a:Addr} {kvs:List (Bl×V)} (e:H a=some (.dK kvs)):Ke K H (.ref a) (.type "dict")
 |dT {a:Addr} {kvs:List (List Bl×V)} (e:H a=some (.dT kvs)):Ke K H (.ref a) (.type "dict")
 | ins {a C dx:Addr} {fs:List (Str×V)} (e:H a=some (.ins C dx fs)) (cl:M8 K C) (ha:PySem.W.findIn K (.ref C) "__class__"=some (some (.builtin "object.__class__")))
   (hn:PySem.W.specialIn K (.builtin "object.__class__") "__get__"=some (some (.builtin "getset_descriptor.__get__"))) (htk:PySem.W.takesIn K (.builtin "object.__class__")=some true)
   (hm:PySem.W.mroIn K C (.type "object")=some true):Ke K H (.ref a) (.ref C)
theorem Fh {x:V}{u t:Value}(I:Ap X pins σ H s)(rx:RelV x u)(ty:Ke X.K H x t)(e:PySem.W.kitOne X.K t c=some b)(h:∀tk,Q (.bool b) { s with toks:=tk }) :
  wpAny (model X.prog X.w) A (call (.builtin "isinstance") [u,c]) Q E s:=by
 cases ty with
 |non=>cases (show u=Value.none from rx);exact PySem.W.kia_one PySem.W.kitx_none I.kIn True.intro e (fun z=>nomatch z) h
 |bl y=>cases (show u=Value.bool y from rx);exact PySem.W.kia_one PySem.W.kitx_bool I.kIn True.intro e (fun z=>nomatch z) h
 |int i=>obtain ⟨t,q⟩:=(show ∃t,u=Value.int i t from rx);cases q;exact PySem.W.kia_one PySem.W.kitx_int I.kIn True.intro e (fun z=>nomatch z) h
 |str y=>obtain ⟨t,q⟩:=(show ∃t,u=Value.str y t from rx);cases q;exact PySem.W.kia_one PySem.W.kitx_str I.kIn True.intro e (fun z=>nomatch z) h
 |flt y=>obtain ⟨t,q⟩:=(show ∃t,u=Value.float y t from rx);cases q;exact PySem.W.kia_one PySem.W.kitx_float I.kIn True.intro e (fun z=>nomatch z) h
 |@lst a xs ea=>
  cases (show u=Value.ref a from rx)
  obtain ⟨_,_,n,_,h1⟩:=(show A4 X.prog X.w H s.heap a (.lst xs) from I.hok a _ ea)
  exact PySem.W.kia_one PySem.W.kitx_list I.kIn ⟨_,h1,rfl⟩ e (fun z=>nomatch z) h
 |@frz a ob xs ea=>
  cases (show u=Value.ref a from rx)
  obtain ⟨_,_,_,n,_,h1⟩:=(show A4 X.prog X.w H s.heap a (.frz ob (.lst xs)) from I.hok a _ ea)
  exact PySem.W.kia_one PySem.W.kitx_list I.kIn ⟨_,h1,rfl⟩ e (fun z=>nomatch z) h
 |@tup a xs ea=>
  cases (show u=Value.ref a from rx)
  obtain ⟨_,_,_,p⟩:=(show A4 X.prog X.w H s.heap a (.tup xs) from I.hok a _ ea)
  obtain ⟨o,h1,h2,_⟩:=p
  exact PySem.W.kia_one PySem.W.kitx_tuple I.kIn ⟨o,h1,h2⟩ e (fun z=>nomatch z) h
 |@dK a kvs ea=>
  cases (show u=Value.ref a from rx)
  obtain ⟨_,_,vs,_,p⟩:=(show A4 X.prog X.w H s.heap a (.dK kvs) from I.hok a _ ea)
  obtain ⟨o,es,ep,h1,h2,_⟩:=p
  exact PySem.W.kia_one PySem.W.kitx_dict I.kIn ⟨o,h1,h2.1⟩ e (fun z=>nomatch z) h
 |@dT a kvs ea=>
  cases (show u=Value.ref a from rx)
  obtain ⟨_,_,xs,_,o,es,ep,h1,h2,_⟩:=(show A4 X.prog X.w H s.heap a (.dT kvs) from I.hok a _ ea)
  exact PySem.W.kia_one PySem.W.kitx_dict I.kIn ⟨o,h1,h2.1⟩ e (fun z=>nomatch z) h
 |@ins a C dx fs ea cl ha hn htk hm=>
  cases (show u=Value.ref a from rx)
  obtain ⟨mA,O,_⟩:=Lg I.hok ea
  obtain ⟨od,J,_⟩:=O.look
  exact PySem.W.kia_one (PySem.W.kitx_own (cl.get _) cl.hd ha hn htk hm) I.kIn J e (fun z=>nomatch z) h
end
end L2
namespace L2
open PySem PySem.Spec PyProof.Rows
structure Bu (k:Nat)(A:Around):Prop where
 hd:A.handled=none
 dp:A.depth+3*k+5<recursionLimit
 un:A.units+16*k+200<cLine
theorem Bu.mono {j k:Nat}{A:Around}(r:Bu k A)(h:j≤k):Bu j A:=⟨r.hd,by have:=r.dp;omega,by have:=r.un;omega⟩
theorem Bu.deeper {k:Nat}{A:Around}(r:Bu (k+1) A)(env:Env):Bu k (A.deeper env):=
 ⟨r.hd,by have:=r.dp;show A.depth+1+3*k+5<_;omega,by have:=r.un;show A.units+3+16*k+200<_;omega⟩
theorem Bu.in1 {k:Nat}{A:Around}(r:Bu (k+1) A):Bu k A.in1:=
 ⟨r.hd,by have:=r.dp;show A.depth+3*k+5<_;omega,by have:=r.un;show A.units+1+16*k+200<_;omega⟩
theorem Ug {A:Around}{C:Addr}{us:List Value}{kw:List (Str×Value)}:(A.under (.builtin "type.__call__" ⟨.ref C::us,kw⟩)).depth=A.depth+1:=by
 first|rfl|simp [Around.under,Code.weight,Code.isCreation,Code.isGuard,Code.isCaller,Code.frames,Code.isFrame,guardIds]
theorem S5 {A:Around}{C:Addr}{us:List Value}{kw:List (Str×Value)}:(A.under (.builtin "type.__call__" ⟨.ref C::us,kw⟩)).units=A.units+1:=by
 first|rfl|simp [Around.under,Code.cUnits,Code.frames,Code.isFrame]
theorem Bu.make {k:Nat}{A:Around}(r:Bu (k+1) A)(C:Addr)(us:List Value)(kw:List (Str×Value)):Bu k (A.under (.builtin "type.__call__" ⟨.ref C::us,kw⟩)):=
 ⟨r.hd,by have:=r.dp;rw [Ug];omega,by have:=r.un;rw [S5];omega⟩
theorem Bu.depth {k:Nat}{A:Around}(r:Bu k A):A.depth<recursionLimit:=by have:=r.dp;omega
theorem Bu.units {k:Nat}{A:Around}(r:Bu k A):A.units+64<cLine:=by have:=r.un;omega
def Agh:TA:=fun _ H Q=>Q [] H
def Ahl (ta:TE)(tr:TA):TA:=fun σ H Q=>ta σ H fun x H1=>tr σ H1 fun xs H2=>Q (x::xs) H2
section
variable {X:Cx}{e:Expr}{es:List Expr}{te:TE}{t:TA}{pos:Pos}
theorem Ac:PA X [] Agh:=fun _ _ _ _ H Q I h=>Calls.spliced_nil ⟨[],H,I,.nil,h⟩
theorem Aa (ha:PE X e te)(hr:PA X es t)(hs:starEach (e::es) X.env=(false,eval e X.env)::starEach es X.env:=by rfl):PA X (e::es) (Ahl te t):=by
 intro pos pins s σ H Q I h
 rw [hs]
 show wpAny _ _ (spliced ((false,eval e X.env)::backTo pos (starEach es X.env))) _ _ s
 refine Calls.spliced_cons (Ba (ha pins s σ H _ I h) fun u s1 ⟨x,H1,I1,r1,q1⟩=>?_)
 exact Ba (hr pos pins s1 σ H1 _ I1 q1) fun us s2 ⟨xs,H2,I2,r2,q2⟩=>⟨x::xs,H2,I2,.cons r1 r2,q2⟩
def Ak5 (t:TA):TE:=fun σ H Q=>t σ H fun xs H1=>xs.length≤sizeLine∧∀p,H1 p=none→Q (.ref p) (upd H1 p (.lst xs))
theorem Em (h:PA X es t):PE X (.List es pos) (Ak5 t):=by
 intro pins s σ H Q I hq
 refine wpAny_List_spliced (Ba (h pos pins s σ H _ I hq) fun us s1 ⟨xs,H1,I1,r,z,q⟩=>⟨by rw [←r.length];exact z,?_⟩)
 have hf:H1 s1.heap.objs.size=none:=I1.hok.fresh (Nat.le_refl _)
 refine ⟨.ref s1.heap.objs.size,upd H1 s1.heap.objs.size (.lst xs),I1.laid (t':=s1.toks) (fun b u e=>Heap.get?_push_of_some _ e) (Nat.le_refl _) ?_,rfl,q _ hf⟩
 exact ⟨z,us,0,r,Heap.get?_push_size _ rfl⟩
end
abbrev Sp:=List V→Hp→VK→XK→Prop
abbrev Xm:=List Env→Hp→Shared→XK→Value→Shared→Prop
structure Tg (P:Program)(w:World)(K:PySem.W.Frag)(mg:Str→Option Value)(base:Heap)(A:Around)(outer:List Env)(s:Shared)(H:Hp):Prop where
 frames:A.frames=some outer
 mod:Mod K mg base
 bs:∀b o,base.get? b=some o→s.heap.get? b=some o∧H b=none
 bsz:base.objs.size≤s.heap.objs.size
 funs:s.heap.FunFrames base outer
 frf:∀b∈Ie outer,H b=none
 hok:G9 P w H s.heap
 bare:AllBare s.gens
def CE (outer:List Env)(P:Program)(w:World)(H:Hp)(s:Shared)(Q:VK)(u:Value)(s':Shared):Prop:=
 ∃v H',s'.os=s.os∧AllBare s'.gens∧Un (Ie outer) [] H H' s.heap s'.heap∧G9 P w H' s'.heap∧RelV v u∧Q v H'
def CR (CX:Xm)(outer:List Env)(P:Program)(w:World)(H:Hp)(s:Shared)(Q:VK)(E:XK)(r:Result)(s':Shared):Prop:=
 match r with
 |.ok (.ret u)=>CE outer P w H s Q u s'
 |.ok _=>False
 |.error e=>CX outer H s E e s'
structure Gv (P:Program)(w:World)(K:PySem.W.Frag)(mg:Str→Option Value)(base:Heap)(CX:Xm)(k:Nat)(f:Addr)(fd:FuncData)(ps:List Str)(sp:Sp):Prop where
 len:∀vs H Q E,sp vs H Q E→vs.length=ps.length
 run:∀(A:Around) (outer:List Env) (s:Shared) (H:Hp) (args:Args) (us:List Value) (vs:List V) (Q:VK) (E:XK),Bu k A→Tg P w K mg base A outer s H→BindsTo s fd args (ps.zip us)→Az vs us→sp vs H Q E →
  codeAny (model P w) A (.call (.ref f) args) (CR CX outer P w H s Q E) s
theorem Gv.mono {P:Program}{w:World}{K:PySem.W.Frag}{mg:Str→Option Value}{base:Heap}{CX:Xm}{j k:Nat}{f:Addr}{fd:FuncData}{ps:List Str}{sp:Sp}(F:Gv P w K mg base CX j f fd ps sp)(h:j≤k) :
  Gv P w K mg base CX k f fd ps sp:=⟨F.len,fun A outer s H args us vs Q E hr=>F.run A outer s H args us vs Q E (hr.mono h)⟩
theorem Tg.make {P:Program}{w:World}{K:PySem.W.Frag}{mg:Str→Option Value}{base:Heap}{A:Around}{outer:List Env}{s:Shared}{H:Hp}(e:Tg P w K mg base A outer s H)(C:Addr)(us:List Value)(kw:List (Str×Value)) :
  Tg P w K mg base (A.under (.builtin "type.__call__" ⟨.ref C::us,kw⟩)) outer s H:=⟨by first|exact e.frames|(simpa [Around.under,Code.envs,Code.isFrame,pushEnvs] using e.frames),e.mod,e.bs,e.bsz,e.funs,e.frf,e.hok,e.bare⟩
section
variable {X:Cx}{pins:List (Addr×Obj)}{σ:St}{H:Hp}{s s':Shared}
theorem Ap.env0 (I:Ap X pins σ H s):Tg X.prog X.w X.K X.mg X.base X.A X.stack s H:=
 ⟨I.ok.frames,I.ok.mod,I.bs,Nat.le_trans I.ok.bsz I.sz,I.stack,I.stkFree,I.hok,I.bare⟩
theorem Ap.after {Q:VK}{u:Value}(I:Ap X pins σ H s)(h:CE X.stack X.prog X.w H s Q u s'):EP X pins σ Q u s':=by
 obtain ⟨v,H',os,bare,un,hok,r,q⟩:=h
 obtain ⟨hh,g,d,t,os'⟩:=s'
 obtain rfl:os'=s.os:=os
 exact ⟨v,H',I.call (h':=hh) (g':=g) (d':=d) (t':=t) (ch:=[]) un hok bare (fun b z=>absurd z (by simp)),r,q⟩
end
def R7 (sp:Sp)(dvs:List V)(E:XK)(t:TA):TE:=fun σ H Q=>t σ H fun vs H1=>sp (vs++dvs) H1 Q E
def Zm (C:Addr)(sp:Sp)(dvs:List V)(E:XK)(t:TA):TE:=fun σ H Q=>t σ H fun vs H1=>∀x dx,H1 x=none→H1 dx=none→dx≠x →
 sp (.ref x::(vs++dvs)) (upd (upd H1 dx (.own x)) x (.ins C dx [])) (fun v H2=>v=.non∧Q (.ref x) H2) E
def Fc (K:PySem.W.Frag)(fd:FuncData)(ps:List Str)(ds:List Value):Prop:=
 ∀(s:Shared) (us:List Value),K.In s.heap→(us++ds).length=ps.length→BindsTo s fd ⟨us,[]⟩ (ps.zip (us++ds))
theorem Fc.all {K:PySem.W.Frag}{fd:FuncData}{ps:List Str}(h:∀us:List Value,us.length=ps.length→bindArgs fd ⟨us,[]⟩=pure (ps.zip us)):Fc K fd ps []:=fun s us _ hl=>by
 rw [List.append_nil] at hl ⊢
 exact .of_eq (h us hl)
def F1 (CX:Xm)(X:Cx)(E:XK):Prop:=∀(pins:List (Addr×Obj)) (σ:St) (H:Hp) (s:Shared) (e:Value) (s':Shared),Ap X pins σ H s→CX X.stack H s E e s'→X.xe e s'
section
variable {X:Cx}{CX:Xm}{k:Nat}{f C:Addr}{fd:FuncData}{ps:List Str}{sp:Sp}{dvs:List V}{ds:List Value}{E:XK}{x m:Str}{p pos apos:Pos}{e o:Expr}{es:List Expr}{ta:TE}{t:TA}
theorem Tw {pins:List (Addr×Obj)}{σ:St}{H:Hp}{s:Shared}{Q:VK}{us:List Value}{vs:List V}(F:Gv X.prog X.w X.K X.mg X.base CX k f fd ps sp)(hr:Bu k X.A)(hb:Fc X.K fd ps ds)(hd:Az dvs ds)(hx:F1 CX X E)
  (I:Ap X pins σ H s) (r:Az vs us) (h:sp (vs++dvs) H Q E):wpAny (model X.prog X.w) X.A (call (.ref f) us) (EP X pins σ Q) X.xe s:=by
 have r2:Az (vs++dvs) (us++ds):=r.append hd
 have hl:(us++ds).length=ps.length:=by rw [←r2.length];exact F.len _ _ _ _ h
 refine wpAny_call (codeAny_mono (F.run X.A X.stack s H ⟨us,[]⟩ (us++ds) (vs++dvs) Q E hr I.env0 (hb s us I.kIn hl) r2 h) fun r s' hq=>?_)
 cases r with
 |error e=>exact hx pins σ H s e s' I hq
 |ok fl=>
  cases fl with
  |ret u=>exact I.after hq
  |next=>exact False.elim hq
  |brk=>exact False.elim hq
  |cont=>exact False.elim hq
theorem U8 (F:Gv X.prog X.w X.K X.mg X.base CX k f fd ps sp)(hr:Bu k X.A)(hg:Gl X x)(hm:X.mg x=some (.ref f))(hk:PySem.W.keepIn X.K (.ref f)=true)(hb:Fc X.K fd ps ds)(hd:Az dvs ds)(hx:F1 CX X E)
  (ha:PA X (e::es) t) (hdb:(x==("__debug__":Str))=false:=by decide) (he:starEach (e::es) X.env=(false,eval e X.env)::starEach es X.env:=by rfl) (hpl:(backTo pos (starEach es X.env)).any (·.1)=false:=by rfl) :
  PE X (.Call (.Name x p) (e::es) [] pos) (R7 sp dvs E t):=by
 intro pins s σ H Q I h
 refine wpAny_Call_Name_kw (Ip I hg hm ?_ hdb)
 refine PySem.W.callWith_K (h₀:=X.base) I.ok.mod.kin hk (Ba (ha pos pins s σ H _ I h) fun us s1 ⟨vs,H1,I1,r,q⟩=>⟨I1.kIn,?_⟩) he hpl
 exact Tw F hr hb hd hx I1 r q
structure Mk (K:PySem.W.Frag)(C f:Addr):Prop where
 makes:PySem.W.makesIn K C=true
 init:PySem.W.findIn K (.ref C) "__init__"=some (some (.ref f))
 fn:PySem.W.isFn K (.ref f)=true
 kp:PySem.W.keepIn K (.ref C)=true
theorem Aao {pins:List (Addr×Obj)}{σ:St}{H:Hp}{s:Shared}{Q:VK}{us:List Value}{vs:List V}(M:Mk X.K C f)(F:Gv X.prog X.w X.K X.mg X.base CX k f fd ps sp)(hr:Bu (k+1) X.A)(hb:Fc X.K fd ps ds)(hd:Az dvs ds)
  (hx:F1 CX X E) (I:Ap X pins σ H s) (r:Az vs us)
  (h:∀x dx,H x=none→H dx=none→dx≠x→sp (.ref x::(vs++dvs)) (upd (upd H dx (.own x)) x (.ins C dx [])) (fun v H2=>v=.non∧Q (.ref x) H2) E) :
  wpAny (model X.prog X.w) X.A (call (.ref C) us) (EP X pins σ Q) X.xe s:=by
 have hq:=h (s.heap.objs.size+1) s.heap.objs.size (I.hok.fresh (Nat.le_succ _)) (I.hok.fresh (Nat.le_refl _)) (Nat.ne_of_lt (Nat.lt_succ_self _))
 have I2:=Ap.made (C:=C) I
 have r2:Az (V.ref (s.heap.objs.size+1)::(vs++dvs)) (Value.ref (s.heap.objs.size+1)::(us++ds)):=.cons rfl (r.append hd)
 have hl:(Value.ref (s.heap.objs.size+1)::us++ds).length=ps.length:=by
  have e:=r2.length
  rw [F.len _ _ _ _ hq] at e
  exact e.symm
 refine wpAny_call (Aae (f:=f) I.kIn M.makes M.init (beq_iff_eq.mp M.fn) (codeAny_mono (F.run _ X.stack _ _ ⟨Value.ref (s.heap.objs.size+1)::us,[]⟩ (Value.ref (s.heap.objs.size+1)::(us++ds)) _ _ E (hr.make C us [])
  (I2.env0.make C us []) (hb _ (Value.ref (s.heap.objs.size+1)::us) I2.kIn hl) r2 hq) fun r s' hq'=>?_))
 cases r with
 |error e=>exact hx pins σ _ _ e s' I2 hq'
 | ok fl=>
  cases fl with
  |ret u=>
   obtain ⟨v,H',I3,rv,ev,q3⟩:=I2.after hq'
   subst ev
   exact ⟨rv,⟨V.ref (s.heap.objs.size+1),H',I3,rfl,q3⟩⟩
  |next=>exact False.elim hq'
  |brk=>exact False.elim hq'
  |cont=>exact False.elim hq'
theorem Acx (M:Mk X.K C f)(F:Gv X.prog X.w X.K X.mg X.base CX k f fd ps sp)(hr:Bu (k+1) X.A)(hg:Gl X x)(hm:X.mg x=some (.ref C))(hb:Fc X.K fd ps ds)(hd:Az dvs ds)(hx:F1 CX X E)
  (ha:PA X (e::es) t) (hdb:(x==("__debug__":Str))=false:=by decide) (he:starEach (e::es) X.env=(false,eval e X.env)::starEach es X.env:=by rfl) (hpl:(backTo pos (starEach es X.env)).any (·.1)=false:=by rfl) :
  PE X (.Call (.Name x p) (e::es) [] pos) (Zm C sp dvs E t):=by
 intro pins s σ H Q I h
 refine wpAny_Call_Name_kw (Ip I hg hm ?_ hdb)
 refine PySem.W.callWith_K (h₀:=X.base) I.ok.mod.kin M.kp (Ba (ha pos pins s σ H _ I h) fun us s1 ⟨vs,H1,I1,r,q⟩=>⟨I1.kIn,?_⟩) he hpl
 exact Aao M F hr hb hd hx I1 r q
end
section
variable {X:Cx}{CX:Xm}{k:Nat}{f C:Addr}{fd:FuncData}{ps ks:List Str}{sp:Sp}{E:XK}{x m:Str}{p pos apos kpos:Pos}{e o:Expr}{es:List Expr}{kws:List Keyword}{te ta:TE}{t tk:TA}{nm:Option Str}
structure Ak3 (K:PySem.W.Frag)(fd:FuncData)(ps ks:List Str)(g:List Value→List Value→List Value)(gV:List V→List V→List V):Prop where
 to:∀(s:Shared) (us ws:List Value),K.In s.heap→(g us ws).length=ps.length→BindsTo s fd ⟨us,ks.zip ws⟩ (ps.zip (g us ws))
 rel:∀{vs:List V} {us:List Value} {zs:List V} {ws:List Value},Az vs us→Az zs ws→Az (gV vs zs) (g us ws)
variable {g:List Value→List Value→List Value}{gV:List V→List V→List V}
end
structure Ao (N P:List Str)(sc:Scope):Prop where
 kind:sc.kind=.function
 co:sc.isCoroutine=false
 gen:sc.isGenerator=false
 nd:N.Nodup
 pre:N.take P.length=P
 par:∀x∈P,sc.names.lookup x=some .local∨sc.names.lookup x=some .cell
 nofree:∀y∈sc.names,y.2≠.free
theorem Oq {kindOf:Str→Option NameKind}{x:Str}:∀{binds:List (Str×Value)} {m:Str→Option Value},(∀v,(x,v)∉binds)→bindL kindOf binds m x=m x
 |[],_,_=>rfl
 | (n,v)::r,m,h=>by
  unfold bindL
  rw [Oq fun w hw=>h w (List.mem_cons_of_mem _ hw)]
  split
  ·have:x≠n:=by rintro rfl;exact h v List.mem_cons_self
   simp [this]
  ·rfl
theorem Ot {kindOf:Str→Option NameKind}{x:Str}:∀{binds:List (Str×Value)} {m:Str→Option Value},(∀v,(x,v)∉binds)→bindC kindOf binds m x=m x
 |[],_,_=>rfl
 | (n,v)::r,m,h=>by
  unfold bindC
  rw [Ot fun w hw=>h w (List.mem_cons_of_mem _ hw)]
  split
  ·rfl
  ·have:x≠n:=by rintro rfl;exact h v List.mem_cons_self
   simp [this]
theorem Oc {kindOf:Str→Option NameKind}{x:Str}{v:Value}:∀{P:List Str} {vs:List Value} {i:Nat} {m:Str→Option Value},P.Nodup→P[i]? =some x→vs[i]? =some v→kindOf x=some .local →
  bindL kindOf (P.zip vs) m x=some v
 |[],_,_,_,_,h,_,_=>by simp at h
 |_::_,[],_,_,_,_,h,_=>by simp at h
 |p::P,w::vs,0,m,nd,h1,h2,hk=>by
  simp at h1 h2;subst h1;subst h2
  show bindL kindOf ((p,w)::P.zip vs) m p=_
  unfold bindL
  rw [Oq fun v hv=>(List.nodup_cons.mp nd).1 (List.of_mem_zip hv).1,if_pos hk]
  simp
 |p::P,w::vs,i+1,m,nd,h1,h2,hk=>by
  show bindL kindOf ((p,w)::P.zip vs) m x=_
  unfold bindL
  exact Oc (i:=i) (List.nodup_cons.mp nd).2 (by simpa using h1) (by simpa using h2) hk
theorem Oi {kindOf:Str→Option NameKind}{x:Str}{v:Value}:∀{P:List Str} {vs:List Value} {i:Nat} {m:Str→Option Value},P.Nodup→P[i]? =some x→vs[i]? =some v→kindOf x≠some .local →
  bindC kindOf (P.zip vs) m x=some v
 |[],_,_,_,_,h,_,_=>by simp at h
 |_::_,[],_,_,_,_,h,_=>by simp at h
 |p::P,w::vs,0,m,nd,h1,h2,hk=>by
  simp at h1 h2;subst h1;subst h2
  show bindC kindOf ((p,w)::P.zip vs) m p=_
  unfold bindC
  rw [Ot fun v hv=>(List.nodup_cons.mp nd).1 (List.of_mem_zip hv).1,if_neg hk]
  simp
 |p::P,w::vs,i+1,m,nd,h1,h2,hk=>by
  show bindC kindOf ((p,w)::P.zip vs) m x=_
  unfold bindC
  exact Oi (i:=i) (List.nodup_cons.mp nd).2 (by simpa using h1) (by simpa using h2) hk
def F7 (N:List Str)(vs:List V):St:=vs.map some++List.replicate (N.length-vs.length) none
def Dh (CX:Xm)(P:Program)(w:World)(K:PySem.W.Frag)(mg:Str→Option Value)(base:Heap)(N:List Str)(qual:Str)(scope:Scope)(f:Addr)(cd:Value)(A:Around)(outer:List Env)(s:Shared)(H:Hp)(E:XK):Cx where
 prog:=P
 w:=w
 K:=K
 mg:=mg
 base:=base
 A:=A.deeper (envOfC qual scope s.heap.objs.size f cd)
 N:=N
 s₀:=s
 H₀:=H
 env:=envOfC qual scope s.heap.objs.size f cd
 outer:=outer
 stack:=envOfC qual scope s.heap.objs.size f cd::outer
 ex:=[]
 calm:=true
 fn:=fun _=>true
 pn:=[]
 xe:=fun e s'=>wpAny (model P w) (A.deeper (envOfC qual scope s.heap.objs.size f cd)) (leaving (envOfC qual scope s.heap.objs.size f cd) e) (fun _ s''=>CX outer H s E e s'') (fun e' s''=>CX outer H s E e' s'') s'
theorem R1 {sc:Scope}{n:Nat}{x:Str}(h:sc.names.lookup x=some .cell):∃c,(cellsFrom n sc.names []).lookup x=some c:=by
 have q:=PySem.W.cellsFrom_some sc.names n [] (.inl h)
 exact Option.isSome_iff_exists.mp q
theorem W4 {CX:Xm}{P:Program}{w:World}{K:PySem.W.Frag}{mg:Str→Option Value}{base:Heap}{N ps:List Str}{qual:Str}{scope:Scope}{f:Addr}{cd:Value}{A:Around}{outer:List Env}{s s1:Shared}{H:Hp}{E:XK}{us:List Value}{vs:List V}
  (S:Ao N ps scope) (hd:A.handled=none) (e0:Tg P w K mg base A outer s H) (hl:vs.length=ps.length) (r:Az vs us)
  (x:InCallC s s.heap.objs.size (bindL (envOfC qual scope s.heap.objs.size f cd).kindOf (ps.zip us) fun _=>none) (cellsFrom (s.heap.objs.size+1) scope.names []) (bindC (envOfC qual scope s.heap.objs.size f cd).kindOf (ps.zip us) fun _=>none) s1) :
  Ap (Dh CX P w K mg base N qual scope f cd A outer s H E) [] (F7 N vs) H s1:=by
 have hpl:ps.length≤N.length:=by have:=congrArg List.length S.pre;rw [List.length_take] at this;omega
 obtain ⟨h1,tk,rfl,hk⟩:=x.done
 have noA:∀b:Addr,b∉(Dh CX P w K mg base N qual scope f cd A outer s H E).ex:=fun b z=>absurd (show b∈([]:List Addr) from z) (by simp)
 refine ⟨⟨e0.mod,S.kind,rfl,rfl,Nat.le_refl _,fun y z c h1 h2=>?_,fun y hy=>?_,fun y c _ h=>?_,fun _=>hd,Around.frames_deeper e0.frames,.inr ⟨rfl,rfl⟩,fun b z=>absurd z (noA b),e0.bs,e0.bsz,fun b _ _=>noA b,fun b z=>absurd z (noA b),e0.funs,e0.frf⟩,
  rfl,e0.bare,Un.kept hk,⟨_,x.toInCall.ns,fun i y v h1 h2 h3=>?_⟩,fun y c h=>⟨_,x.cell y c h⟩,e0.hok.fresh (Nat.le_refl _),fun y c h=>?_,fun p hp=>absurd (show p∈([]:List (Addr×Obj)) from hp) (by simp),e0.hok.kept hk,?_⟩
 ·exact name_of_addr x.apart (PySem.mem_of_lookup h1) (PySem.mem_of_lookup h2)
 ·have hy:scope.names.lookup y=some .cell∨scope.names.lookup y=some .free:=hy
  rcases hy with hy|hy
  ·exact R1 hy
  ·exact absurd rfl (S.nofree _ (PySem.mem_of_lookup hy))
 ·exact Nat.le_of_lt (x.above y c (PySem.mem_of_lookup h))
 ·have hi:i<vs.length:=by
   unfold F7 at h2
   by_cases hi:i<vs.length
   ·exact hi
   ·rw [List.getElem?_append_right (by simpa using hi)] at h2
    rw [List.getElem?_replicate] at h2
    split at h2<;>cases h2
  have ha:vs[i]? =some v:=by
   unfold F7 at h2
   rw [List.getElem?_append_left (by simpa using hi),List.getElem?_map] at h2
   cases e:vs[i]? with
   |none=>rw [e] at h2;cases h2
   |some a=>rw [e] at h2;cases h2;rfl
  obtain ⟨u,hu,rv⟩:=r.get ha
  have hp:ps[i]? =some y:=by
   rw [←S.pre,List.getElem?_take_of_lt (by omega)];exact h1
  have ndP:ps.Nodup:=by rw [←S.pre];exact S.nd.sublist (List.take_sublist _ _)
  refine ⟨u,rv,?_⟩
  rcases S.par y (List.mem_of_getElem? hp) with k|k
  ·exact .inl ⟨k,Oc ndP hp hu k⟩
  ·obtain ⟨c,e⟩:=R1 (n:=s.heap.objs.size+1) k
   refine .inr ⟨.inl k,c,e,?_⟩
   have q:=x.cell y c e
   rw [Oi ndP hp hu (by show scope.names.lookup y≠_;rw [k];decide)] at q
   exact q
 ·exact e0.hok.fresh (Nat.le_of_lt (x.above y c (PySem.mem_of_lookup h)))
 ·unfold F7
  show _=N.length
  rw [List.length_append,List.length_map,List.length_replicate]
  omega
theorem X6 {CX:Xm}{P:Program}{w:World}{K:PySem.W.Frag}{mg:Str→Option Value}{base:Heap}{k:Nat}{f:Addr}{name qual:Str}{params:Arguments}{body:List Stmt}{scope:Scope}{dV kV doc pm cdv ct oc:Value}{an od:Option Addr}
  {osl:Array (Option Value)} {N ps:List Str} {sp:Sp} (lk:K.lookup f=some ⟨oc,od,.func (PySem.W.fnOf name qual params body scope dV kV doc pm an cdv ct),osl⟩) (hcd:PySem.W.codeIn K cdv qual=true) (S:Ao N ps scope)
  (len:∀vs H Q E,sp vs H Q E→vs.length=ps.length)
  (hbody:∀(A:Around) (outer:List Env) (s:Shared) (H:Hp) (vs:List V) (Q:VK) (E:XK),Bu k (A.deeper (envOfC qual scope s.heap.objs.size f cdv))→sp vs H Q E →
   ∃t,Ko (Dh CX P w K mg base N qual scope f cdv A outer s H E) body t∧t { nx:=fun _ H'=>Q .non H',rt:=Q } (F7 N vs) H) :
  Gv P w K mg base CX (k+1) f (PySem.W.fnOf name qual params body scope dV kV doc pm an cdv ct) ps sp:=by
 refine ⟨len,fun A outer s H args us vs Q E hr e0 hb r hsp=>?_⟩
 have hl:=len _ _ _ _ hsp
 have KX:K.In s.heap:=e0.mod.kin.keeps fun b o e=>(e0.bs b o e).1
 have lim:s.heap.NoLimit:=e0.mod.nolimit.keeps fun b o e=>(e0.bs b o e).1
 have hkind:∀y∈ps.zip us,scope.names.lookup y.1=some .local∨(scope.names.lookup y.1=some .cell∧((cellsFrom (s.heap.objs.size+1) scope.names []).lookup y.1).isSome=true):=fun ⟨n,v⟩ hy=>by
  rcases S.par n (List.of_mem_zip hy).1 with q|q
  ·exact .inl q
  ·exact .inr ⟨q,PySem.W.cellsFrom_some _ _ _ (.inl q)⟩
 refine codeAny_call_function hr.depth (KX _ _ lk) rfl S.co S.gen rfl (PySem.W.codeRec_of KX hcd) (hb _ _ _ _ ?_)
 refine wpAny_newFunctionEnv_cells S.kind hkind fun env he s1 x=>?_
 subst he
 refine ⟨lim.keeps x.toInCall.keep,codeAny_func ?_⟩
 obtain ⟨t,ht,hq⟩:=hbody A outer s H vs Q E (hr.deeper _) hsp
 have I:Ap (Dh CX P w K mg base N qual scope f cdv A outer s H E) [] (F7 N vs) H s1:=W4 S hr.hd e0 hl r x
 refine wpAny_mono (ht [] s1 (F7 N vs) H _ I hq) (fun fl s' hs=>?_) fun e s' hs=>hs
 have fin:∀{σ':St} {H':Hp} {v:V} {u:Value},Ap (Dh CX P w K mg base N qual scope f cdv A outer s H E) [] σ' H' s'→RelV v u→Q v H'→CE outer P w H s Q u s' :=
  fun {σ' H' v u} J rv q=>⟨v,H',J.os,J.bare,J.base,J.hok,rv,q⟩
 cases fl with
 |ret u=>
  obtain ⟨v,σ',H',J,rv,q⟩:=hs
  exact fin J rv q
 |next=>
  obtain ⟨σ',H',J,q⟩:=hs
  exact fin (v:=V.non) (u:=Value.none) J rfl q
 |brk=>
  obtain ⟨_,_,_,q⟩:=hs
  exact False.elim q
 |cont=>
  obtain ⟨_,_,_,q⟩:=hs
  exact False.elim q
end L2
namespace L2
open PySem PySem.Spec PyProof.Rows
section
variable {X:Cx}{x:Str}{p pos:Pos}{e:Expr}{es:List Expr}{t:TA}{id T:String}{r:List V→Hp→VK→Prop}
def tCB (r:List V→Hp→VK→Prop)(t:TA):TE:=fun σ H Q=>t σ H fun vs H1=>r vs H1 Q
theorem Aq (hc:B6 X (.builtin id) r)(hg:Gl X x)(hm:X.mg x=none)(hv:bootBuiltins x=some (.builtin id))(ha:PA X (e::es) t)(hn:x≠"__name__":=by decide)(hdb:(x==("__debug__":Str))=false:=by decide)
  (he:starEach (e::es) X.env=(false,eval e X.env)::starEach es X.env:=by rfl) (hpl:(backTo pos (starEach es X.env)).any (·.1)=false:=by rfl):PE X (.Call (.Name x p) (e::es) [] pos) (tCB r t):=by
 intro pins s σ H Q I h
 refine wpAny_Call_Name_kw (Fr I hg hm hv ?_ hn hdb)
 exact PyProof.Rows.callWith_builtin1 (Ba (ha pos pins s σ H _ I h) fun us s1 ⟨vs,H1,I1,r1,q1⟩=>hc pins s1 σ H1 vs us Q I1 r1 q1) he hpl
theorem Fd (hc:B6 X (.type T) r)(hg:Gl X x)(hm:X.mg x=none)(hv:bootBuiltins x=some (.type T))(ha:PA X (e::es) t)(hn:x≠"__name__":=by decide)(hdb:(x==("__debug__":Str))=false:=by decide)
  (he:starEach (e::es) X.env=(false,eval e X.env)::starEach es X.env:=by rfl) (hpl:(backTo pos (starEach es X.env)).any (·.1)=false:=by rfl):PE X (.Call (.Name x p) (e::es) [] pos) (tCB r t):=by
 intro pins s σ H Q I h
 refine wpAny_Call_Name_kw (Fr I hg hm hv ?_ hn hdb)
 exact PyProof.Rows.callWith_type1 (Ba (ha pos pins s σ H _ I h) fun us s1 ⟨vs,H1,I1,r1,q1⟩=>hc pins s1 σ H1 vs us Q I1 r1 q1) he hpl
end
end L2
namespace HT
open PySem PyProof.Rows
section
open PySem.SeqAt
open PySem.AutoSeq1 (wpAny_loadPart')
open PySem.MeetsSeq PySem.MeetsSeq2 PySem.MeetsSeq3
end
section
variable {prog:Program}{w:World}{A:Around}{E:Value→Shared→Prop}{s:Shared}
def sIx (n d:Nat):Option Int→Nat
 |none=>d
 |some v=>if v<0 then (v+(n:Int)).toNat else min v.toNat n
theorem sIx_none (n d:Nat):sIx n d none=d:=rfl
theorem sIx_nat (n d k:Nat):sIx n d (some (k:Int))=min k n:=by
 show (if (k:Int)<0 then ((k:Int)+(n:Int)).toNat else min (k:Int).toNat n)=min k n
 rw [if_neg (by omega),Int.toNat_natCast]
theorem sIx_le (n d:Nat)(hd:d≤n)(o:Option Int):sIx n d o≤n:=by
 cases o with
 |none=>exact hd
 |some v=>
  show (if v<0 then (v+(n:Int)).toNat else min v.toNat n)≤n
  by_cases hv:v<0
  ·rw [if_pos hv];omega
  ·rw [if_neg hv];exact Nat.min_le_right _ _
theorem U2 (v:Int)(n d:Nat):(if v<0 then max (v+(n:Int)) 0 else min v (n:Int))=((sIx n d (some v):Nat):Int):=by
 show (if v<0 then max (v+(n:Int)) 0 else min v (n:Int))=(((if v<0 then (v+(n:Int)).toNat else min v.toNat n):Nat):Int)
 by_cases hv:v<0
 ·simp only [if_pos hv];omega
 ·simp only [if_neg hv];omega
theorem Uh (lo hi:Option Int)(n:Nat):Builtin.Slice.sliceAdjust lo hi 1 (n:Int)=(((sIx n 0 lo:Nat):Int),((sIx n n hi:Nat):Int)):=by
 have h1:¬((1:Int)<0):=by omega
 unfold Builtin.Slice.sliceAdjust
 simp only [h1,if_false]
 refine Prod.ext ?_ ?_
 ·cases lo with
  |none=>rfl
  |some v=>exact U2 v n 0
 ·cases hi with
  |none=>rfl
  |some v=>exact U2 v n n
theorem S6 (i j:Nat):Builtin.Slice.slicePlaces (i:Int) (j:Int) 1=j-i:=by
 unfold Builtin.Slice.slicePlaces
 have h1:(1:Int)>0:=by omega
 simp only [h1,if_true,Int.ediv_one]
 split<;>omega
theorem Mg {v:Value}{o:Option Int}{Q:Option Int→Shared→Prop}(p:IsPart v o)(h:Q o s):wpAny (model prog w) A (Builtin.Slice.slicePartIndex v) Q E s:=by
 cases p with
 |none=>exact slicePart_none h
 |int i t=>exact slicePart_int h
theorem J6 {sl:Addr}{vl vu:Value}{lo hi:Option Int}{n:Nat}{Q:Int×Int×Nat→Shared→Prop}(hs:s.heap.IsSliceOf sl vl vu .none)(pl:IsPart vl lo)(pu:IsPart vu hi)
  (h:Q (((sIx n 0 lo:Nat):Int),1,sIx n n hi-sIx n 0 lo) s):wpAny (model prog w) A (Builtin.Slice.sliceApplied (.ref sl) (pure (n:Int))) Q E s:=by
 obtain ⟨os,hos,hcs,hds⟩:=id hs
 unfold Builtin.Slice.sliceApplied Builtin.Slice.sliceFields
 refine wpAny_bind (wpAny_bind (wpAny_field hos hds (x:=vl) rfl (wpAny_bind (wpAny_field hos hds (x:=vu) rfl (wpAny_bind (wpAny_field hos hds (x:=.none) rfl (wpAny_pure ?_)))))))
 refine wpAny_bind (slicePart_none ?_)
 show wpAny _ _ (if ((1:Int)==0)=true then _ else _) _ _ s
 rw [if_neg (by decide)]
 refine wpAny_bind (Mg pl (wpAny_bind (Mg pu (wpAny_bind (wpAny_pure ?_)))))
 show wpAny _ _ (match Builtin.Slice.sliceAdjust lo hi 1 (n:Int) with|(lo,hi)=>pure (lo,(1:Int),Builtin.Slice.slicePlaces lo hi 1)) _ _ s
 rw [Uh lo hi n]
 show wpAny _ _ (pure (((sIx n 0 lo:Nat):Int),(1:Int),Builtin.Slice.slicePlaces ((sIx n 0 lo:Nat):Int) ((sIx n n hi:Nat):Int) 1)) _ _ s
 rw [S6]
 exact wpAny_pure h
theorem Y1 (xs:Array Value)(i k:Nat):((List.range k).filterMap fun (m:Nat)=>xs[((i:Int)+(m:Int)*1).toNat]?).toArray=((xs.toList.drop i).take k).toArray:=by
 have e:(fun (m:Nat)=>xs[((i:Int)+(m:Int)*1).toNat]?)=fun m=>xs[i+m]?:=by
  funext m
  have:((i:Int)+(m:Int)*1).toNat=i+m:=by omega
  rw [this]
 rw [e]
 have:=pick_run xs i k
 rw [List.filterMap_map] at this
 have e2:((fun x=>xs[x]?) ∘ fun x=>i+x)=fun m=>xs[i+m]?:=rfl
 rw [e2] at this
 rw [this]
theorem getItem_tuple_cut {t sl:Addr}{items:Array Value}{vl vu:Value}{lo hi:Option Int}{Q:Value→Shared→Prop}(ht:IsTup s.heap t items)(hs:s.heap.IsSliceOf sl vl vu .none)(pl:IsPart vl lo)(pu:IsPart vu hi)
  (hw:¬(sIx items.size 0 lo=0∧sIx items.size items.size hi=items.size))
  (h:Q (.ref s.heap.objs.size) { s with heap:=s.heap.push { cls:=.type "tuple",data:=.seq ((items.toList.drop (sIx items.size 0 lo)).take (sIx items.size items.size hi-sIx items.size 0 lo)).toArray } })
  (hsz:items.size≤sizeLine):wpAny (model prog w) A (getItem (.ref t) (.ref sl)) Q E s:=by
 have htake:sizeOk (.seq ((items.toList.drop (sIx items.size 0 lo)).take (sIx items.size items.size hi-sIx items.size 0 lo)).toArray):=by
  show ((items.toList.drop (sIx items.size 0 lo)).take (sIx items.size items.size hi-sIx items.size 0 lo)).toArray.size≤sizeLine
  rw [List.size_toArray,List.length_take,List.length_drop,Array.length_toList]
  omega
 have hj:sIx items.size items.size hi≤items.size:=sIx_le _ _ (Nat.le_refl _) hi
 obtain ⟨os,hos,hcs,hds⟩:=id hs
 have hTs:s.TypeIs (.ref sl) "slice":=⟨os,hos,hcs⟩
 unfold getItem
 try with_reducible refine wpAny_holding ?_
 first|refine wpAny_bind (wpAny_pure ?_)|skip
 refine wpAny_bind (wpAny_sequenceKey ht.typeIs (by decide) ?_)
 refine wpAny_bind (wpAny_callSpecial?_slot (name:=Str.ofString "__getitem__") ht.typeIs PyProof.Rows.slot_tuple_getitem
  (wpAny_call_entry PyProof.Rows.slot_tuple_getitem ht.typeIs entry_tuple_getitem ?_ (args_tuple_getitem _ _)))
 show wpAny _ _ (Builtin.Tuple.tupleItemsOf (.ref t) >>= _) _ _ s
 refine wpAny_bind (tupleItemsOf_ ht ?_)
 refine wpAny_bind (wpAny_typeOf hTs ?_)
 rw [if_pos (by decide)]
 refine wpAny_bind (J6 hs pl pu ?_)
 have hno:¬((((sIx items.size 0 lo:Nat):Int)==0&&(1:Int)==1&&(sIx items.size items.size hi-sIx items.size 0 lo)==items.size)=true):=by
  intro q
  rw [Bool.and_eq_true,Bool.and_eq_true] at q
  have q1:((sIx items.size 0 lo:Nat):Int)=0:=eq_of_beq q.1.1
  have q2:sIx items.size items.size hi-sIx items.size 0 lo=items.size:=eq_of_beq q.2
  exact hw ⟨by omega,by omega⟩
 show wpAny _ _ (if (((sIx items.size 0 lo:Nat):Int)==0&&(1:Int)==1&&(sIx items.size items.size hi-sIx items.size 0 lo)==items.size)=true then _ else _) _ _ s
 rw [if_neg hno,Y1]
 first
  |exact wpAny_bind (m:=Builtin.Tuple.tupleExact _) (wpAny_newObj_type (wpAny_pure ⟨_,rfl,wpAny_pure h⟩) htake)
  |exact wpAny_bind (m:=Builtin.Tuple.tupleExact _) (wpAny_newObj_type (wpAny_bind (wpAny_pure (wpAny_pure ⟨_,rfl,wpAny_pure h⟩))) htake)
  |exact wpAny_bind (wpAny_bind (m:=Builtin.Tuple.tupleExact _) (wpAny_newObj_type (wpAny_pure (wpAny_pure ⟨_,rfl,wpAny_pure h⟩)) htake))
  |exact wpAny_bind (wpAny_bind (m:=Builtin.Tuple.tupleExact _) (wpAny_newObj_type (wpAny_pure ⟨_,rfl,wpAny_pure h⟩) htake))
end
end HT
namespace L2
open PySem PySem.Spec PyProof.Rows
abbrev TO:=St→Hp→(Option Int→Hp→Prop)→Prop
def PO (X:Cx)(e:Option Expr)(t:TO):Prop:=
 ∀(pins:List (Addr×Obj)) (s:Shared) (σ:St) (H:Hp) (Q:Option Int→Hp→Prop),Ap X pins σ H s→t σ H Q →
  wpAny (model X.prog X.w) X.A (evalPart e X.env) (fun u s'=>∃o H',Ap X pins σ H' s'∧IsPart u o∧Q o H') X.xe s
def Aa0:TO:=fun _ H Q=>Q none H
def Ai0 (t:TE):TO:=fun σ H Q=>t σ H fun x H1=>∃i,x=.int i∧Q (some i) H1
section
variable {X:Cx}{e:Expr}{te:TE}{lo hi:Option Expr}{tl th:TO}{pos p2:Pos}
theorem Fz:PO X none Aa0:=by
 intro pins s σ H Q I h
 rw [evalPart_none]
 exact wpAny_pure ⟨none,H,I,.none,h⟩
theorem B5 (h:PE X e te):PO X (some e) (Ai0 te):=by
 intro pins s σ H Q I hw
 rw [evalPart_some]
 refine Ba (h pins s σ H _ I hw) fun u s1 ⟨x,H1,I1,r1,q1⟩=>?_
 obtain ⟨i,rfl,q⟩:=q1
 obtain ⟨t,rfl⟩:=r1
 exact ⟨some i,H1,I1,.int i t,q⟩
def SlR (X:Cx)(r:V→Option Int→Option Int→Hp→VK→Prop):Prop:=
 ∀(pins:List (Addr×Obj)) (s:Shared) (σ:St) (H:Hp) (x:V) (v vl vu:Value) (lo hi:Option Int) (sl:Addr) (Q:VK),Ap X pins σ H s→RelV x v→s.heap.IsSliceOf sl vl vu .none→IsPart vl lo→IsPart vu hi→r x lo hi H Q →
  ∃T id,typeLookup (.type T) "__getitem__"=pure (some (.builtin id))∧s.TypeIs v T∧wpAny (model X.prog X.w) X.A (getItem v (.ref sl)) (EP X pins σ Q) X.xe s
def tSl (r:V→Option Int→Option Int→Hp→VK→Prop)(te:TE)(tl th:TO):TE:=fun σ H Q=>te σ H fun x H1=>tl σ H1 fun l H2=>th σ H2 fun u H3=>r x l u H3 Q
theorem Cg {r:V→Option Int→Option Int→Hp→VK→Prop}(hr:SlR X r)(he:PE X e te)(hl:PO X lo tl)(hu:PO X hi th):PE X (.Subscript e (.Slice lo hi none p2) pos) (tSl r te tl th):=by
 intro pins s σ H Q I h
 refine Subscript_ (Ba (he pins s σ H _ I h) fun v s1 ⟨x,H1,I1,r1,q1⟩=>?_)
 refine wpAny_Slice (Ba (hl pins s1 σ H1 _ I1 q1) fun vl s2 ⟨l,H2,I2,pl,q2⟩=>Ba (hu pins s2 σ H2 _ I2 q2) fun vu s3 ⟨u,H3,I3,pu,q3⟩=>?_)
 rw [evalPart_none]
 refine wpAny_pure ?_
 have I4:Ap X pins σ H3 { s3 with heap:=s3.heap.push { cls:=.type "slice",data:=.fields #[vl,vu,.none] } }:=I3.kept (t':=s3.toks) fun b ob q=>Heap.get?_push_of_some _ q
 obtain ⟨T,id,hT,ht,hg⟩:=hr pins { s3 with heap:=s3.heap.push { cls:=.type "slice",data:=.fields #[vl,vu,.none] } } σ H3 x v vl vu l u s3.heap.objs.size Q I4 r1 (Heap.IsSliceOf.new ..) pl pu q3
 show wpAny (model X.prog X.w) X.A (subscriptTail e (.Slice lo hi none p2) v (.ref s3.heap.objs.size)) (EP X pins σ Q) X.xe { s3 with heap:=s3.heap.push { cls:=.type "slice",data:=.fields #[vl,vu,.none] } }
 exact tail_any (ops:=[.ref s3.heap.objs.size,v]) ht hT hg (by with_unfolding_all rfl)
def Dn (xs:List V)(lo hi:Option Int):List V:=(xs.drop (HT.sIx xs.length 0 lo)).take (HT.sIx xs.length xs.length hi-HT.sIx xs.length 0 lo)
theorem Ku (xs:List V)(lo hi:Option Int):(Dn xs lo hi).length≤xs.length:=by
 unfold Dn
 rw [List.length_take,List.length_drop]
 omega
def Ak4 (K:PySem.W.Frag):V→Option Int→Option Int→Hp→VK→Prop:=fun x lo hi H Q=>∃a xs,x=.ref a∧Ed K H a xs ∧
 ¬(HT.sIx xs.length 0 lo=0∧HT.sIx xs.length xs.length hi=xs.length)∧∀p,H p=none→Q (.ref p) (upd H p (.tup (Dn xs lo hi)))
theorem Tm:SlR X (Ak4 X.K):=by
 intro pins s σ H x v vl vu lo hi sl Q I rx hs pl pu h
 obtain ⟨a,xs,rfl,hx,hw,q⟩:=h
 cases rx
 obtain ⟨its,r,ht,hz⟩:=I.tuple hx
 have hlen:its.toArray.size=xs.length:=by rw [List.size_toArray];exact r.length.symm
 refine ⟨"tuple",_,PyProof.Rows.slot_tuple_getitem.lookup,ht.typeIs,?_⟩
 refine HT.getItem_tuple_cut ht hs pl pu (by rw [hlen];exact hw) ?_ (by rw [hlen];exact hz)
 rw [hlen]
 refine ⟨.ref s.heap.objs.size,_,I.laid (t':=s.toks) (o:=.tup (Dn xs lo hi)) (fun b ob q=>Heap.get?_push_of_some _ q) (Nat.le_refl _) ?_,rfl,q _ (I.hok.fresh (Nat.le_refl _))⟩
 exact ⟨Nat.le_trans (Ku xs lo hi) hz,_,(r.drop (HT.sIx xs.length 0 lo)).take (HT.sIx xs.length xs.length hi-HT.sIx xs.length 0 lo),IsTup.new _ _⟩
end
end L2
namespace L2
open PySem PySem.Spec PyProof.Rows
def ixN (n:Nat)(i:Int):Option Nat:=if 0≤i then (if i<n then some i.toNat else none) else if -(n:Int)≤i then some (i+n).toNat else none
def Qt {α:Type}(xs:List α)(i:Int):Option α:=(ixN xs.length i).bind fun j=>xs[j]?
theorem Vl {n:Nat}{i:Int}{j:Nat}(h:ixN n i=some j):seqIndex? i n=some j∧j<n∧-(n:Int)≤i∧i<n:=by
 unfold ixN at h
 by_cases h0:0≤i
 ·rw [if_pos h0] at h
  by_cases h1:i<n
  ·rw [if_pos h1] at h
   have e:i.toNat=j:=Option.some.inj h
   exact ⟨by rw [seqIndex_of h0 h1,e],by omega,by omega,h1⟩
  ·rw [if_neg h1] at h;cases h
 ·rw [if_neg h0] at h
  by_cases h1:-(n:Int)≤i
  ·rw [if_pos h1] at h
   have e:(i+n).toNat=j:=Option.some.inj h
   exact ⟨by rw [seqIndex_neg (by omega) h1,e],by omega,h1,by omega⟩
  ·rw [if_neg h1] at h;cases h
theorem P9 {α:Type}{xs:List α}{i:Int}{v:α}(h:Qt xs i=some v):∃j,seqIndex? i xs.length=some j∧xs[j]? =some v∧j<xs.length∧-(xs.length:Int)≤i∧i<xs.length:=by
 unfold Qt at h
 cases e:ixN xs.length i with
 |none=>rw [e] at h;cases h
 |some j=>
  rw [e] at h
  obtain ⟨h1,h2,h3,h4⟩:=Vl e
  exact ⟨j,h1,h,h2,h3,h4⟩
theorem Cn {α:Type}{xs:List α}{j:Nat}{v:α}(h:xs[j]? =some v):Qt xs (j:Int)=some v:=by
 have hj:j<xs.length:=(List.getElem?_eq_some_iff.mp h).1
 have e:ixN xs.length (j:Int)=some j:=by
  unfold ixN
  rw [if_pos (by omega),if_pos (by omega)];simp
 unfold Qt;rw [e];exact h
def Ab5 (b:Expr):Prop:=∀o i,subscripted b false o i=operate [o,i] (getItem o i)
def IxR (X:Cx)(r:R2):Prop:=
 ∀(value slice:Expr) (pins:List (Addr×Obj)) (s:Shared) (σ:St) (H:Hp) (x y:V) (v u:Value) (Q:VK),Ap X pins σ H s→RelV x v→RelV y u→r x y H Q →
  subscripted slice false v u=operate [v,u] (getItem v u)→wpAny (model X.prog X.w) X.A (subscriptTail value slice v u) (EP X pins σ Q) X.xe s
def MtR (X:Cx)(id:String)(r:V→List V→Hp→VK→Prop):Prop:=
 ∀(pins:List (Addr×Obj)) (s:Shared) (σ:St) (H:Hp) (x:V) (xs:List V) (v:Value) (us:List Value) (Q:VK),Ap X pins σ H s→RelV x v→Az xs us→r x xs H Q →
  wpAny (model X.prog X.w) X.A (call (.builtin id) (v::us)) (EP X pins σ Q) X.xe s
section
variable {X:Cx}{a b:Expr}{ta tb:TE}{pos:Pos}
theorem Am {r:R2}(hr:IxR X r)(ha:PE X a ta)(hb:PE X b tb)(hs:Ab5 b):PE X (.Subscript a b pos) (tOp r ta tb):=by
 intro pins s σ H Q I h
 exact Subscript_ (Ady ha hb I h fun v u s2 x y H2 I2 rx ry q=>hr a b pins s2 σ H2 x y v u Q I2 rx ry q (hs _ _))
def Akf (K:PySem.W.Frag):R2:=fun x y H Q=>∃p xs i v,x=.ref p∧y=.int i∧A0 K H p xs∧Qt xs i=some v∧Q v H
def Aj2 (K:PySem.W.Frag):R2:=fun x y H Q=>∃p xs i v,x=.ref p∧y=.int i∧Ed K H p xs∧Qt xs i=some v∧Q v H
def Alb:R2:=fun x y H Q=>∃z i c,x=.str z∧y=.int i∧z.length≤sizeLine∧Qt z.cps.toList i=some c∧Q (.str ⟨#[c]⟩) H
theorem Ab8:IxR X (Akf X.K):=by
 intro value slice pins s σ H x y v u Q I rx ry h hs
 obtain ⟨p,xs,i,z,rfl,rfl,hq,he,q⟩:=h
 cases rx
 obtain ⟨t,rfl⟩:=ry
 obtain ⟨its,r,pl,hz⟩:=I.list hq
 obtain ⟨j,h1,h2,h3,h4,h5⟩:=P9 he
 obtain ⟨w,ew,rw'⟩:=r.get h2
 have hl:=r.length
 have hn:=J0
 have fin:EP X pins σ Q w s:=⟨z,H,I,rw',q⟩
 by_cases h0:0≤i
 ·have hj:i.toNat=j:=by
   rw [seqIndex_of h0 h5] at h1
   exact Option.some.inj h1
  exact item_listR pl.isList h0 (by omega) (by rw [hj];simpa using ew) fin hs
 ·have hj:(i+(its.toArray.size:Int)).toNat=j:=by
   rw [seqIndex_neg (by omega) h4] at h1
   rw [List.size_toArray,←hl]
   exact Option.some.inj h1
  exact subscriptTail_builtinR (x:=w) pl.isList.typeIs slot_list_getitem.lookup
   (wpAny_getItem_list_neg (Q:=fun r s'=>r=w∧EP X pins σ Q r s') pl.isList (by omega) (by rw [List.size_toArray]<;>omega) (by omega) (by rw [hj];simpa using ew) ⟨rfl,fin⟩) hs
theorem Aec:IxR X (Aj2 X.K):=by
 intro value slice pins s σ H x y v u Q I rx ry h hs
 obtain ⟨p,xs,i,z,rfl,rfl,hq,he,q⟩:=h
 cases rx
 obtain ⟨t,rfl⟩:=ry
 obtain ⟨its,r,pl,hz⟩:=I.tuple hq
 obtain ⟨j,h1,h2,h3,h4,h5⟩:=P9 he
 obtain ⟨w,ew,rw'⟩:=r.get h2
 have hl:=r.length
 have hn:=J0
 have fin:EP X pins σ Q w s:=⟨z,H,I,rw',q⟩
 exact subscriptTail_builtinR (x:=w) pl.typeIs slot_tuple_getitem.lookup
  (getItem_tuple (j:=j) (Q:=fun r s'=>r=w∧EP X pins σ Q r s') pl (by omega) (by omega) (by rw [List.size_toArray,←hl];exact h1) (by simpa using ew) ⟨rfl,fin⟩) hs
theorem Aet:IxR X Alb:=by
 intro value slice pins s σ H x y v u Q I rx ry h hs
 obtain ⟨z,i,c,rfl,rfl,hz,he,q⟩:=h
 obtain ⟨t,rfl⟩:=rx
 obtain ⟨t',rfl⟩:=ry
 obtain ⟨j,h1,h2,h3,h4,h5⟩:=P9 he
 have hl:z.cps.toList.length=z.length:=by simp [Str.length]
 rw [hl] at h1 h4 h5
 have hn:=J0
 exact tail_any (typeIs_str s z t) slot_str_getitem.lookup (getItem_str (c:=c) (by
  have e1:decide (i < -(2 ^ 63:Int))=false:=decide_eq_false (by omega)
  have e2:decide (i≥2 ^ 63)=false:=decide_eq_false (by omega)
  rw [e1,e2,Bool.or_false]) (by rw [h1];simpa using h2) ⟨.str ⟨#[c]⟩,H,I.tok _,⟨_,rfl⟩,q⟩) hs
theorem Ue (its:List Value)(n j:Nat)(u:Value):Obj.mapSeq (·.setIfInBounds j u) { cls:=.type "list",data:=.seq its.toArray n }={ cls:=.type "list",data:=.seq (its.set j u).toArray n }:=by
 simp [Obj.mapSeq]
theorem Ap.lst {pins:List (Addr×Obj)}{σ:St}{H:Hp}{s:Shared}{p:Addr}{xs:List V}(I:Ap X pins σ H s)(h:H p=some (.lst xs)) :
  ∃(its:List Value) (n:Nat),Az xs its∧s.heap.get? p=some { cls:=.type "list",data:=.seq its.toArray n }∧xs.length≤sizeLine:=by
 obtain ⟨z,its,n,r,e⟩:=I.hok p _ h
 exact ⟨its,n,r,e,z⟩
theorem Ap.lstUpd {pins:List (Addr×Obj)}{σ:St}{H:Hp}{s:Shared}{p:Addr}{xs ys:List V}{its its':List Value}{n n':Nat}{f:Obj→Obj}(I:Ap X pins σ H s)(h:H p=some (.lst xs))
  (ho:s.heap.get? p=some { cls:=.type "list",data:=.seq its.toArray n }) (hf:f { cls:=.type "list",data:=.seq its.toArray n }={ cls:=.type "list",data:=.seq its'.toArray n' }) (r:Az ys its') (hz:ys.length≤sizeLine) (t:Nat) :
  Ap X pins σ (upd H p (.lst ys)) { s with heap:=s.heap.update p f,toks:=t }:=by
 have e:(s.heap.update p f).get? p=some { cls:=.type "list",data:=.seq its'.toArray n' }:=by
  rw [Heap.get?_update_self f ho (by rw [hf]<;>rfl),hf]
 refine I.write (x:=p) (e:=p) (by rw [h];trivial) (.inl rfl) (fun b u hb q=>(Heap.get?_update_other _ _ (Ne.symm hb)).trans q) ⟨_,e⟩ ?_
 exact ⟨hz,its',n',r,e⟩
def Aia:V→V→V→Hp→(Hp→Prop)→Prop:=fun o i v H Q=>∃p xs k j,o=.ref p∧i=.int k∧H p=some (.lst xs)∧ixN xs.length k=some j∧Q (upd H p (.lst (xs.set j v)))
theorem Yo:Aiu X Aia:=by
 intro pins s σ H o i v ov iv u Q I ro ri rv h
 obtain ⟨p,xs,k,j,rfl,rfl,hp,hj,q⟩:=h
 cases ro
 obtain ⟨t,rfl⟩:=ri
 obtain ⟨its,n,r,ho,hz⟩:=I.lst hp
 obtain ⟨h1,h2,h3,h4⟩:=Vl hj
 have hl:=r.length
 have hn:=J0
 have I':Ap X pins σ (upd H p (.lst (xs.set j v))) { s with heap:=s.heap.update p (Obj.mapSeq (·.setIfInBounds j u)) } :=
  I.lstUpd hp ho (Ue its n j u) (r.set rv j) (by rw [List.length_set];exact hz) s.toks
 by_cases h0:0≤k
 ·have hk:k.toNat=j:=by
   rw [seqIndex_of h0 h4] at h1
   exact Option.some.inj h1
  exact PySem.W.ki_setAt ho h0 (by omega) (by rw [List.size_toArray,←hl];exact h4) (by rw [hk];exact ⟨_,I',q⟩)
 ·have hk:(k+(its.toArray.size:Int)).toNat=j:=by
   rw [seqIndex_neg (by omega) h3] at h1
   rw [List.size_toArray,←hl]
   exact Option.some.inj h1
  exact PySem.W.ki_setBack ho (by omega) (by rw [List.size_toArray,←hl];exact h3) (by omega) (by rw [hk];exact ⟨_,I',q⟩)
theorem O6 (lo hi:Option Int)(n:Nat):(sliceBounds lo hi none n).1=((HT.sIx n 0 lo:Nat):Int)∧(sliceBounds lo hi none n).2.1=((HT.sIx n n hi:Nat):Int)∧(sliceBounds lo hi none n).2.2=1:=by
 refine ⟨?_,?_,rfl⟩
 ·cases lo with
  |none=>simp [sliceBounds,HT.sIx]
  |some i=>
   simp only [sliceBounds,HT.sIx,Option.getD_none,show (1:Int)>0 by decide,if_true]
   by_cases h:i<0
   ·simp only [h,if_true]<;>omega
   ·simp only [h,if_false]<;>omega
 ·cases hi with
  |none=>simp [sliceBounds,HT.sIx]
  |some i=>
   simp only [sliceBounds,HT.sIx,Option.getD_none,show (1:Int)>0 by decide,if_true]
   by_cases h:i<0
   ·simp only [h,if_true]<;>omega
   ·simp only [h,if_false]<;>omega
theorem Nh (its:List Value)(lo hi:Option Int):slicePick its.toArray lo hi none=((its.drop (HT.sIx its.length 0 lo)).take (HT.sIx its.length its.length hi-HT.sIx its.length 0 lo)).toArray:=by
 obtain ⟨h1,h2,h3⟩:=O6 lo hi its.toArray.size
 unfold slicePick
 rw [h1,h2,h3]
 simp only [sliceRange_one,pick_run,List.size_toArray]<;>rfl
def Akg (K:PySem.W.Frag):V→Option Int→Option Int→Hp→VK→Prop:=fun x lo hi H Q=>∃a xs,x=.ref a∧A0 K H a xs∧∀p,H p=none→Q (.ref p) (upd H p (.lst (Dn xs lo hi)))
theorem Abg:SlR X (Akg X.K):=by
 intro pins s σ H x v vl vu lo hi sl Q I rx hs pl pu h
 obtain ⟨a,xs,rfl,hx,q⟩:=h
 cases rx
 obtain ⟨its,r,ht,hz⟩:=I.list hx
 have hlen:=r.length
 refine ⟨"list",_,slot_list_getitem.lookup,ht.isList.typeIs,?_⟩
 refine wpAny_getItem_list_slice ht.isList hs pl pu .none (by simp) ?_ (by rw [List.size_toArray]<;>omega)
 rw [Nh,←hlen]
 refine ⟨.ref s.heap.objs.size,_,I.laid (t':=s.toks) (o:=.lst (Dn xs lo hi)) (fun b ob q=>Heap.get?_push_of_some _ q) (Nat.le_refl _) ?_,rfl,q _ (I.hok.fresh (Nat.le_refl _))⟩
 exact ⟨Nat.le_trans (Ku xs lo hi) hz,_,0,(r.drop (HT.sIx xs.length 0 lo)).take (HT.sIx xs.length xs.length hi-HT.sIx xs.length 0 lo),Heap.get?_push_size _ rfl⟩
def E7:V→Bool
 |.non=>true
 |.bl _=>true
 |.int _=>true
 |.str _=>true
 |_=>false
def eqV:V→V→Bool
 |.non,.non=>true
 |.bl a,.bl b=>a==b
 |.bl a,.int b=>(if a then 1 else 0)==b
 |.int a,.bl b=>a==(if b then 1 else 0)
 |.int a,.int b=>a==b
 |.str a,.str b=>a==b
 |_,_=>false
theorem Afz {A:Around}{s:Shared}{y x:V}{u v:Value}(ry:RelV y u)(rx:RelV x v)(fy:E7 y=true)(fx:E7 x=true):SeqAt.EqAt A s u v (eqV y x):=by
 cases y with
 |non=>
  cases ry
  cases x with
  |non=>cases rx;exact SeqAt.EqAt.same _
  |bl b=>cases rx;exact SeqAt.EqAt.none_bool b
  |int b=>obtain ⟨t,rfl⟩:=rx;exact SeqAt.EqAt.none_int b t
  |str b=>obtain ⟨t,rfl⟩:=rx;exact SeqAt.EqAt.none_str b t
  |_=>exact absurd (show false=true from fx) Bool.false_ne_true
 |bl a=>
  cases ry
  cases x with
  |non=>cases rx;exact SeqAt.EqAt.bool_none a
  |bl b=>cases rx;exact SeqAt.EqAt.bool_bool a b
  |int b=>obtain ⟨t,rfl⟩:=rx;exact SeqAt.EqAt.bool_int a b t
  |str b=>obtain ⟨t,rfl⟩:=rx;exact SeqAt.EqAt.bool_str a b t
  |_=>exact absurd (show false=true from fx) Bool.false_ne_true
 |int a=>
  obtain ⟨t',rfl⟩:=ry
  cases x with
  |non=>cases rx;exact SeqAt.EqAt.int_none a t'
  |bl b=>cases rx;exact SeqAt.EqAt.int_bool a t' b
  |int b=>obtain ⟨t,rfl⟩:=rx;exact SeqAt.EqAt.int_int a t' b t
  |str b=>obtain ⟨t,rfl⟩:=rx;exact SeqAt.EqAt.int_str a t' b t
  |_=>exact absurd (show false=true from fx) Bool.false_ne_true
 |str a=>
  obtain ⟨t',rfl⟩:=ry
  cases x with
  |non=>cases rx;exact SeqAt.EqAt.str_none a t'
  |bl b=>cases rx;exact SeqAt.EqAt.str_bool a t' b
  |int b=>obtain ⟨t,rfl⟩:=rx;exact SeqAt.EqAt.str_int a t' b t
  |str b=>obtain ⟨t,rfl⟩:=rx;exact SeqAt.EqAt.str_str a t' b t
  |_=>exact absurd (show false=true from fx) Bool.false_ne_true
 |_=>exact absurd (show false=true from fy) Bool.false_ne_true
def Td (x:V)(u:Value):Bool:=match u with
 |.none=>eqV .non x
 |.bool b=>eqV (.bl b) x
 |.int i _=>eqV (.int i) x
 |.str z _=>eqV (.str z) x
 |_=>false
theorem Ys {x y:V}{u:Value}(r:RelV y u)(f:E7 y=true):Td x u=eqV y x:=by
 cases y with
 |non=>cases r;rfl
 |bl b=>cases r;rfl
 |int i=>obtain ⟨t,rfl⟩:=r;rfl
 |str z=>obtain ⟨t,rfl⟩:=r;rfl
 |_=>exact absurd (show false=true from f) Bool.false_ne_true
theorem Ja {x:V}:∀{xs:List V} {us:List Value},Az xs us→xs.all E7=true→us.any (Td x)=xs.any fun y=>eqV y x
 |_,_,.nil,_=>rfl
 |y::xs,u::us,.cons r t,f=>by
  rw [List.all_cons,Bool.and_eq_true] at f
  rw [List.any_cons,List.any_cons,Ys r f.1,Ja t f.2]
theorem Gg {A:Around}{s:Shared}{x:V}{v:Value}(rx:RelV x v)(fx:E7 x=true):∀{xs:List V} {us:List Value},Az xs us→xs.all E7=true→∀u∈us,SeqAt.EqAt A s u v (Td x u)
 |_,_,.nil,_=>fun u hu=>by cases hu
 |y::xs,u::us,.cons r t,f=>fun u' hu=>by
  rw [List.all_cons,Bool.and_eq_true] at f
  rcases List.mem_cons.mp hu with rfl|hu
  ·rw [Ys r f.1];exact Afz r rx f.1 fx
  ·exact Gg rx fx t f.2 u' hu
def inV (x:V)(xs:List V):Bool:=xs.any fun y=>eqV y x
def rIn (K:PySem.W.Frag)(neg:Bool):R2:=fun x y H Q=>∃p xs,y=.ref p∧(A0 K H p xs∨Ed K H p xs)∧E7 x=true∧xs.all E7=true∧Q (.bl (if neg then !inV x xs else inV x xs)) H
theorem Wj:C6 X (compareOp .In) (rIn X.K false):=by
 intro pins s σ H x y v u Q I rx ry h
 obtain ⟨p,xs,rfl,hq,fx,fs,q⟩:=h
 cases ry
 rcases hq with hq|hq
 ·obtain ⟨its,r,pl,hz⟩:=I.list hq
  refine SeqAt.in_listAt (Td x) pl.isList (fun w hw=>Gg rx fx r fs w (by simpa using hw)) ⟨.bl _,H,I,rfl,?_⟩
  rw [show its.toArray.any (Td x)=its.any (Td x) by simp,Ja r fs]
  exact q
 ·obtain ⟨its,r,pl,hz⟩:=I.tuple hq
  refine SeqAt.in_tupleAt (Td x) pl (fun w hw=>Gg rx fx r fs w (by simpa using hw)) ⟨.bl _,H,I,rfl,?_⟩
  rw [show its.toArray.any (Td x)=its.any (Td x) by simp,Ja r fs]
  exact q
theorem P1:C6 X (compareOp .NotIn) (rIn X.K true):=by
 intro pins s σ H x y v u Q I rx ry h
 obtain ⟨p,xs,rfl,hq,fx,fs,q⟩:=h
 cases ry
 rcases hq with hq|hq
 ·obtain ⟨its,r,pl,hz⟩:=I.list hq
  refine SeqAt.notIn_listAt (Td x) pl.isList (fun w hw=>Gg rx fx r fs w (by simpa using hw)) ⟨.bl _,H,I,rfl,?_⟩
  rw [show its.toArray.any (Td x)=its.any (Td x) by simp,Ja r fs]
  exact q
 ·obtain ⟨its,r,pl,hz⟩:=I.tuple hq
  refine SeqAt.notIn_tupleAt (Td x) pl (fun w hw=>Gg rx fx r fs w (by simpa using hw)) ⟨.bl _,H,I,rfl,?_⟩
  rw [show its.toArray.any (Td x)=its.any (Td x) by simp,Ja r fs]
  exact q
theorem O3:B6 X (.builtin "len") (fun xs H Q=>∃p ys,xs=[.ref p]∧(A0 X.K H p ys∨Ed X.K H p ys)∧Q (.int ys.length) H):=by
 intro pins s σ H xs us Q I r h
 obtain ⟨p,ys,rfl,hq,q⟩:=h
 obtain ⟨u,rfl,rx⟩:=Jh r
 cases rx
 have hn:=J0
 rcases hq with hq|hq
 ·obtain ⟨its,r',pl,hz⟩:=I.list hq
  have hlen:=r'.length
  exact Calls.call_len_list pl.isList (by simp only [List.size_toArray]<;>omega) ⟨.int ys.length,H,I.tok _,⟨s.toks+1,by rw [List.size_toArray,hlen]⟩,q⟩
 ·obtain ⟨its,r',pl,hz⟩:=I.tuple hq
  have hlen:=r'.length
  exact len_tuple pl (by simp only [List.size_toArray]<;>omega) ⟨.int ys.length,H,I.tok _,⟨s.toks+1,by rw [List.size_toArray,hlen]⟩,q⟩
theorem Qj:B6 X (.builtin "len") (fun xs H Q=>∃z,xs=[.str z]∧z.length≤sizeLine∧Q (.int z.length) H):=by
 intro pins s σ H xs us Q I r h
 obtain ⟨z,rfl,hz,q⟩:=h
 obtain ⟨u,rfl,t,rfl⟩:=Jh r
 have hn:=J0
 exact len_str (by omega) ⟨.int z.length,H,I.tok _,⟨_,rfl⟩,q⟩
theorem Jc:B6 X (.type "list") (fun xs H Q=>∃p ys,xs=[.ref p]∧(A0 X.K H p ys∨Ed X.K H p ys)∧∀l,H l=none→Q (.ref l) (upd H l (.lst ys))):=by
 intro pins s σ H xs us Q I r h
 obtain ⟨p,ys,rfl,hq,q⟩:=h
 obtain ⟨u,rfl,rx⟩:=Jh r
 cases rx
 have fin:∀(its:List Value),Az ys its→ys.length≤sizeLine→∀(h':Heap) (c':Nat),(∀b o',s.heap.get? b=some o'→h'.get? b=some o') →
   h'.get? s.heap.objs.size=some { cls:=.type "list",dict:=none,data:=.seq its.toArray c',slots:=#[] }→EP X pins σ Q (.ref s.heap.objs.size) { s with heap:=h' }:=fun its r' hz h' c' kp e=>
  ⟨.ref s.heap.objs.size,_,I.laid (t':=s.toks) kp (Nat.le_refl _) (show A4 X.prog X.w _ h' _ (.lst ys) from ⟨hz,its,c',r',e⟩),rfl,q _ (I.hok.fresh (Nat.le_refl _))⟩
 rcases hq with hq|hq
 ·obtain ⟨its,r',pl,hz⟩:=I.list hq
  have hlen:=r'.length
  obtain ⟨o,ho,hc,n,hd⟩:=pl.isList
  exact call_list_seq p (.inl rfl) ho hc hd (fun h' c' kp e=>fin its r' hz h' c' kp e) (by simp only [List.size_toArray]<;>omega)
 ·obtain ⟨its,r',pl,hz⟩:=I.tuple hq
  have hlen:=r'.length
  obtain ⟨o,ho,hc,n,hd⟩:=pl
  exact call_list_seq p (.inr rfl) ho hc hd (fun h' c' kp e=>fin its r' hz h' c' kp e) (by simp only [List.size_toArray]<;>omega)
def tyV (K:PySem.W.Frag)(T:String)(x:V)(H:Hp):Prop:=match x with
 |.str _=>T="str"
 |.int _=>T="int"
 | .ref p=>(T="list"∧∃xs,A0 K H p xs)∨(T="tuple"∧∃o,K.lookup p=some o∧o.cls=.type "tuple"∧o.dict=none) ∨
   (T="dict"∧((∃kvs,H p=some (.dK kvs))∨∃kvs,H p=some (.dT kvs)))∨(T="set"∧∃S n,H p=some (.set S n))
 |_=>False
theorem Ae0 {pins:List (Addr×Obj)}{σ:St}{H:Hp}{s:Shared}{T:String}{x:V}{v:Value}(I:Ap X pins σ H s)(r:RelV x v)(ty:tyV X.K T x H) :
  s.TypeIs v T∧∀a,v=.ref a→∃ob,s.heap.get? a=some ob∧ob.dict=none:=by
 cases x with
 |str z=>
  obtain ⟨t,rfl⟩:=r
  cases (show T="str" from ty)
  exact ⟨typeIs_str s z t,fun _ e=>nomatch e⟩
 |int i=>
  obtain ⟨t,rfl⟩:=r
  cases (show T="int" from ty)
  exact ⟨typeIs_int s i t,fun _ e=>nomatch e⟩
 | ref p=>
  cases r
  rcases ty with ⟨rfl,xs,hq⟩|⟨rfl,o,hk,hc,hd⟩|⟨rfl,hk⟩|⟨rfl,S,n,hk⟩
  ·obtain ⟨its,_,pl,_⟩:=I.list hq
   refine ⟨pl.isList.typeIs,fun a e=>?_⟩
   cases e
   obtain ⟨o,n,e,c,hd,_⟩:=pl
   exact ⟨o,e,hd⟩
  ·refine ⟨⟨o,I.kIn p o hk,hc⟩,fun a e=>?_⟩
   cases e
   exact ⟨o,I.kIn _ o hk,hd⟩
  ·have z:∃o,s.heap.get? p=some o∧o.ExactDict:=by
    rcases hk with ⟨kvs,hk⟩|⟨kvs,hk⟩
    ·obtain ⟨_,_,_,_,o,_,_,e,ex,_⟩:=I.hok p _ hk
     exact ⟨o,e,ex⟩
    ·obtain ⟨_,_,_,_,o,_,_,e,ex,_⟩:=I.hok p _ hk
     exact ⟨o,e,ex⟩
   obtain ⟨o,e,ex⟩:=z
   refine ⟨⟨o,e,ex.1⟩,fun a e2=>?_⟩
   cases e2
   exact ⟨o,e,ex.2.1⟩
  ·obtain ⟨o,_,_,_,e,ex,_⟩:=I.hok p _ hk
   refine ⟨⟨o,e,ex.1⟩,fun a e2=>?_⟩
   cases e2
   exact ⟨o,e,ex.2.1⟩
 |_=>exact False.elim ty
def tBM (K:PySem.W.Frag)(T:String)(r:V→List V→Hp→VK→Prop)(to:TE)(t:TA):TE:=fun σ H Q=>to σ H fun x H1=>tyV K T x H1∧t σ H1 fun xs H2=>r x xs H2 Q
variable {o e:Expr}{es:List Expr}{to:TE}{t:TA}{name:Str}{apos cpos:Pos}{T id:String}{r:V→List V→Hp→VK→Prop}
theorem Kz (pa:PlainAttrs T)(slot:Slot T name id)(hty:typeOf (.builtin id)=pure (.type "method_descriptor"))(hm:MtR X id r)(ho:PE X o to)(ha:PA X (e::es) t)
  (hbase:attributeBase o name X.env (eval o X.env)=eval o X.env:=by rfl)
  (hfew:((backTo cpos (starEach (e::es) X.env)).all (fun x=>!x.1)&&(backToKw cpos (keywordEach [] X.env)).all (fun x=>x.1.isSome)
   && decide ((e::es).length+([]:List Keyword).length+(if ([]:List Keyword).isEmpty then 0 else 1)<30))=true:=by rfl)
  (hline:(apos.endLine==cpos.line)=true:=by rfl) (hs:starEach (e::es) X.env=(false,eval e X.env)::starEach es X.env:=by rfl) (hplain:(backTo cpos (starEach es X.env)).any (·.1)=false:=by rfl) :
  PE X (.Call (.Attribute o name apos) (e::es) [] cpos) (tBM X.K T r to t):=by
 intro pins s σ H Q I h
 refine wpAny_Call_method_late hbase hfew hline rfl (Ba (ho pins s σ H _ I h) fun v s1 ⟨x,H1,I1,r1,ty,q1⟩=>?_)
 obtain ⟨h1,h2⟩:=Ae0 I1 r1 ty
 refine ⟨T,id,pa,slot,hty,h1,h2,?_⟩
 have hA:=ha cpos pins s1 σ H1 _ I1 q1
 rw [hs] at hA ⊢
 refine Calls.callWith_builtin (by show (false||(backTo cpos (starEach es X.env)).any (·.1))=false;rw [hplain]<;>rfl) (Calls.evalArgs_plain ?_)
 exact Ba hA fun us s2 ⟨vs,H2,I2,r2,q2⟩=>hm pins s2 σ H2 x vs v us Q I2 r1 r2 q2
/- xs.append(e),list.index on a module's tuple .. are MtR facts of 06m -/
end
end L2
namespace L2
open PySem PySem.Spec PyProof.Rows
def MtM (X:Cx)(id:String)(r:V→List V→Hp→VK→Prop):Prop:=
 ∀(pins:List (Addr×Obj)) (s:Shared) (σ:St) (H:Hp) (x:V) (xs:List V) (v:Value) (us:List Value) (Q:VK),Ap X pins σ H s→RelV x v→Az xs us→r x xs H Q →
  wpAny (model X.prog X.w) X.A (call (.builtin id) (v::us)) (EP X pins σ Q) X.xe s
theorem Az.one:∀{x:V} {us:List Value},Az [x] us→∃u,us=[u]∧RelV x u
 |_,_,.cons r .nil=>⟨_,rfl,r⟩
theorem Az.eraseIdx:∀{xs:List V} {us:List Value} (i:Nat),Az xs us→Az (xs.eraseIdx i) (us.eraseIdx i)
 |_,_,_,.nil=>.nil
 |_,_,0,.cons _ t=>t
 |_,_,i+1,.cons r t=>.cons r (Az.eraseIdx i t)
theorem Ny {α:Type}:∀(l:List α) (i:Nat),(l.eraseIdx i).length≤l.length
 |[],_=>Nat.le_refl _
 |_::_,0=>Nat.le_succ _
 |_::r,i+1=>Nat.succ_le_succ (Ny r i)
section
variable {X:Cx}{pins:List (Addr×Obj)}{σ:St}{H:Hp}{s:Shared}{l b:Addr}{xs ys zs:List V}
theorem Ap.lset {its its':List Value}{n:Nat}{f:Array Value→Array Value}{t':Nat}(I:Ap X pins σ H s)(hH:H l=some (.lst xs))
  (e:s.heap.get? l=some { cls:=.type "list",data:=.seq its.toArray n }) (hf:f its.toArray=its'.toArray) (hv:Az ys its') (hz:ys.length≤sizeLine) :
  Ap X pins σ (upd H l (.lst ys)) { s with heap:=s.heap.update l (Obj.mapSeq f),toks:=t' }:=by
 have q:=PySem.IsL.update e f
 rw [hf] at q
 refine I.write (x:=l) (e:=l) (by rw [hH];exact trivial) (.inl rfl) (fun b' u hb hu=>(Heap.get?_update_other s.heap (Obj.mapSeq f) (Ne.symm hb)).trans hu) ⟨_,q⟩ ?_
 exact ⟨hz,its',_,hv,q⟩
theorem Ap.lnew {its:List Value}{t':Nat}(I:Ap X pins σ H s)(hv:Az ys its)(hz:ys.length≤sizeLine) :
  Ap X pins σ (upd H s.heap.objs.size (.lst ys)) { s with heap:=s.heap.push { cls:=.type "list",data:=.seq its.toArray },toks:=t' } :=
 I.laid (fun _ _ q=>Heap.get?_push_of_some _ q) (Nat.le_refl _) ⟨hz,its,0,hv,Heap.get?_push_size _ rfl⟩
theorem Ap.fresh (I:Ap X pins σ H s):H s.heap.objs.size=none:=I.hok.fresh (Nat.le_refl _)
theorem Ap.lstM (I:Ap X pins σ H s)(hH:H l=some (.lst xs)):xs.length≤sizeLine∧∃(its:List Value) (n:Nat),Az xs its∧xs.length=its.length∧s.heap.get? l=some { cls:=.type "list",data:=.seq its.toArray n }:=by
 obtain ⟨z,its,n,r,e⟩:=I.hok l _ hH
 exact ⟨z,its,n,r,r.length,e⟩
theorem Zd {n:Nat}(h:n≤sizeLine):Builtin.List.listTooLong n=false:=by
 unfold Builtin.List.listTooLong
 exact decide_eq_false (by omega)
end
section
variable {X:Cx}
def Uw:V→List V→Hp→VK→Prop:=fun x vs H Q=>∃l xs y,x=.ref l∧vs=[y]∧H l=some (.lst xs)∧xs.length<sizeLine∧Q .non (upd H l (.lst (xs++[y])))
theorem D5:MtM X "list.append" Uw:=by
 intro pins s σ H x vs v us Q I rx rv h
 obtain ⟨l,xs,y,rfl,rfl,hH,hz,q⟩:=h
 cases rx
 obtain ⟨u,rfl,ru⟩:=rv.one
 obtain ⟨z,its,n,r,hl,e⟩:=I.lstM hH
 refine call_meets F.slot_list_append ⟨_,e,rfl⟩ F.entry_list_append (F.args_list_append_2 _ _) (PySem.list_append l its.toArray n u (by rw [List.size_toArray];omega)) ⟨e,?_⟩
 refine ⟨.non,_,I.lset (its':=its++[u]) hH e (by simp) (r.append (.cons ru .nil)) ?_,rfl,q⟩
 rw [List.length_append,List.length_singleton]
 omega
def Aft:V→List V→Hp→VK→Prop:=fun x vs H Q=>∃l xs i k y,x=.ref l∧vs=[.int i]∧H l=some (.lst xs)∧-(2 ^ 63)≤i∧i<2 ^ 63∧seqIndex? i xs.length=some k∧xs[k]? =some y∧Q y (upd H l (.lst (xs.eraseIdx k)))
theorem Sj:MtM X "list.pop" Aft:=by
 intro pins s σ H x vs v us Q I rx rv h
 obtain ⟨l,xs,i,k,y,rfl,rfl,hH,h1,h2,hk,hy,q⟩:=h
 cases rx
 obtain ⟨u,rfl,ru⟩:=rv.one
 obtain ⟨t,rfl⟩:=ru
 obtain ⟨z,its,n,r,hl,e⟩:=I.lstM hH
 obtain ⟨w,hw,rw'⟩:=r.get hy
 refine call_meets F.slot_list_pop ⟨_,e,rfl⟩ F.entry_list_pop (F.args_list_pop_2 _ _)
  (MeetsSeq.list_pop_at l its.toArray n i t k w (fitsIndex_both h1 h2) (by rw [List.size_toArray,←hl];exact hk) (by rw [←Array.getElem?_toList];exact hw) (by rw [List.size_toArray];omega)) ⟨e,?_⟩
 refine ⟨y,_,I.lset (its':=its.eraseIdx k) hH e ?_ (r.eraseIdx k) ?_,rw',q⟩
 ·show its.toArray.eraseIdxIfInBounds k=(its.eraseIdx k).toArray
  rw [List.eraseIdxIfInBounds_toArray]
 ·have:=Ny xs k
  omega
def Akw:R2:=fun x y H Q=>∃l b xs zs,x=.ref l∧y=.ref b∧H l=some (.lst xs)∧H b=some (.lst zs)∧xs.length+zs.length≤sizeLine∧∀p,H p=none→Q (.ref p) (upd H p (.lst (xs++zs)))
theorem Agc:C6 X (binaryOp .Add) Akw:=by
 intro pins s σ H x y v u Q I rx ry h
 obtain ⟨l,b,xs,zs,rfl,rfl,hH,hB,hz,q⟩:=h
 cases rx
 cases ry
 obtain ⟨z,its,n,r,hl,e⟩:=I.lstM hH
 obtain ⟨z2,its2,n2,r2,hl2,e2⟩:=I.lstM hB
 refine PySem.P.add_list e e2 ?_ (by rw [List.size_toArray,List.size_toArray];omega)
 have ea:its.toArray++its2.toArray=(its++its2).toArray:=by simp
 rw [ea]
 exact ⟨.ref _,_,I.lnew (t':=s.toks) (r.append r2) (by rw [List.length_append];omega),rfl,q _ I.fresh⟩
end
section
variable {prog:Program}{w:World}{A:Around}{E:Value→Shared→Prop}{s:Shared}
set_option maxRecDepth 100000 in
end
section
variable {X:Cx}
end
end L2
namespace Att
open PySem PySem.W PySem.Calls PyProof.Rows
theorem Ld {P:Params}{h:Heap}:∀(ns:List Int) (vs:List Value),WellAll P h vs (ns.map WData.int)→IntsAre vs ns:=by
 intro ns
 induction ns with
 |nil=>
  intro vs w
  rw [List.map_nil] at w
  cases w
  exact .nil
 | cons n ns ih=>
  intro vs w
  rw [List.map_cons] at w
  cases w with
  |cons a b=>
   cases a
   exact .cons _ _ (ih _ b)
theorem script_of {l:OpenLaw}{n:Nat}(hn:l.most=some n){P:Params}{h:Heap}{args:List WData}{vals:List Value}
  (hpre:l.row.toRowW.claim.pre args=true) (hwl:WellAll P h vals args) :
  ∃a vs ns,vals=[Value.ref a]∧args=[WData.list (ns.map WData.int)]∧h.get? a=some { cls:=.type "list",data:=.seq vs.toArray }∧IntsAre vs ns∧ns.length≤n:=by
 have hsh:WShape.hasAll [] args [.list .int]=true:=(pre_splitW hpre).1
 have hc:l.pre.holds [] { args:=args }=true:=(pre_splitW hpre).2
 obtain ⟨d,r,rfl,h1,h2⟩:=hasAllW_cons hsh
 obtain rfl:=hasAllW_nil h2
 obtain ⟨xs,rfl,h3⟩:=hasW_list h1
 obtain ⟨ns,rfl⟩:=items_int h3
 have hlen:ns.length≤n:=by
  unfold OpenLaw.pre at hc
  have h4:(WTm.not (.lt (.lit (.int (n:Int))) (.len (.arg 0)))).holds [] { args:=[.list (ns.map .int)] }=true:=by
   have h4:=(holds_andW hc).1
   rw [hn] at h4
   exact h4
  have h5:=condW_of h4 (w_not (w_lt w_lit (w_len_list (w_arg rfl))))
  rw [List.length_map] at h5
  refine Nat.le_of_not_lt fun q=>?_
  have q':(n:Int)<((ns.length:Nat):Int):=by omega
  first
   |(rw [decide_eq_true q'] at h5;exact absurd h5 (by decide))
   |(simp at h5;omega)
 cases hwl with
 |cons w1 w2=>
  cases w2
  cases w1 with
  |list ho hall=>exact ⟨_,_,ns,rfl,rfl,ho,Ld ns _ hall,hlen⟩
theorem post_true (l:OpenLaw)(args:List WData):l.row.toRowW.claim.post args (.bool true) args=true:=
 postW_of (r:=l.row.toRowW) (X:=(true==true))
  (show WShape.has [] (.bool true) .bool=true by first|rfl|decide|simp [WShape.has,WShape.arms,WShape.armsAll])
  (show (WTm.eq .res (.lit (.bool true))).value [] { args:=args,res:=some (.bool true),after:=args }=some (.bool (true==true)) from w_eq_bool (w_res rfl) w_lit) rfl
section
variable {prog:Program}{w:World}{A:Around}{E:Value→Shared→Prop}{s:Shared}{K:Frag}
end
end Att
namespace L2
open PySem PySem.Spec PyProof.Rows
theorem Ob:∀{vs:List Value} {ns:List Int},IntsAre vs ns→Az (ns.map V.int) vs
 |_,_,.nil=>.nil
 |_,_,.cons n t h=>.cons ⟨t,rfl⟩ (Ob h)
end L2
namespace L2
open PySem PySem.Spec PyProof.Rows
end L2
/- THE LAST THEOREM (shape;LID,My.* are yours):
   My.Adr: a structure of the addresses that your layer names (classes,functions);My.Txt K t: a structure (Prop) of the equations over K;
   My.txt_mk:{K} {implicit addresses ..} (e1:nsIn K mainGlobals "law"=some (some (.ref f))) (e2:K.lookup f=some ⟨oc,od,.func (fnOf "law" "law" params body scope dV kV doc pm an cdv ct),sl⟩) (e3:codeIn K cdv "law"=true) ..:∃t,My.Txt K t
set_option maxRecDepth 100000 in
set_option maxHeartbeats 0 in
(the tactic k_is has no namespace: write k_is) -/
namespace L2
open PySem PySem.Spec PyProof.Rows
def C9 (s:Stmt)(j:Nat):Stmt:=match s with
 |.ClassDef _ _ _ body _ _ _ _ _ _ _=>body.getD j (.Pass ⟨0,0,0,0⟩)
 |_=>.Pass ⟨0,0,0,0⟩
def C1 (s:Stmt):Arguments:=match s with
 |.FunctionDef _ a _ _ _ _ _ _ _ _=>a
 |_=>{ posonlyargs:=[],args:=[],vararg:=none,kwonlyargs:=[],kw_defaults:=[],kwarg:=none,defaults:=[] }
def Bp (s:Stmt):List Stmt:=match s with
 |.FunctionDef _ _ b _ _ _ _ _ _ _=>b
 |_=>[]
def Ag (s:Stmt):Scope:=match s with
 |.FunctionDef _ _ _ _ _ _ sc _ _ _=>sc
 |_=>{ kind:=.function,names:=[],isGenerator:=false,isCoroutine:=false }
abbrev E0:XK:=fun _ _ _=>False
structure Fun (K:PySem.W.Frag)(x qual:Str)(st:Stmt)(f:Addr)(fd:FuncData):Prop where
 ex:∃(oc:Value) (od:Option Addr) (kV doc pm:Value) (an:Option Addr) (cdv ct:Value) (osl:Array (Option Value)),
  fd=PySem.W.fnOf x qual (C1 st) (Bp st) (Ag st) .none kV doc pm an cdv ct∧K.lookup f=some ⟨oc,od,.func fd,osl⟩∧PySem.W.codeIn K cdv qual=true
 kp:PySem.W.keepIn K (.ref f)=true
section
variable {P:Program}{w:World}{K:PySem.W.Frag}{mg:Str→Option Value}{base:Heap}
theorem Fun.binds {x qual:Str}{st:Stmt}{f:Addr}{fd:FuncData}{ps:List Str}(F:Fun K x qual st f fd)
  (h:∀(kV doc pm:Value) (an:Option Addr) (cdv ct:Value) (us:List Value),us.length=ps.length→bindArgs (PySem.W.fnOf x qual (C1 st) (Bp st) (Ag st) .none kV doc pm an cdv ct) ⟨us,[]⟩=pure (ps.zip us)):Fc K fd ps []:=by
 obtain ⟨oc,od,kV,doc,pm,an,cdv,ct,osl,rfl,lk,hcd⟩:=F.ex
 exact .all (h kV doc pm an cdv ct)
theorem Jx {x qual:Str}{st:Stmt}{f:Addr}{oc:Value}{od an:Option Addr}{osl:Array (Option Value)}{kV doc pm cdv ct:Value}(l:K.lookup f=some ⟨oc,od,.func (PySem.W.fnOf x qual (C1 st) (Bp st) (Ag st) .none kV doc pm an cdv ct),osl⟩)
  (c:PySem.W.codeIn K cdv qual=true) (k:PySem.W.keepIn K (.ref f)=true):Fun K x qual st f (PySem.W.fnOf x qual (C1 st) (Bp st) (Ag st) .none kV doc pm an cdv ct):=⟨⟨oc,od,kV,doc,pm,an,cdv,ct,osl,rfl,l,c⟩,k⟩
end
section
variable {X:Cx}
end
def Ai (H H':Hp):Prop:=∀b o,H b=some o→H' b=some o
theorem Ai.refl (H:Hp):Ai H H:=fun _ _ h=>h
theorem Ai.trans {H H1 H2:Hp}(a:Ai H H1)(b:Ai H1 H2):Ai H H2:=fun c o h=>b c o (a c o h)
theorem Ai.seq {K:PySem.W.Frag}{H H':Hp}{a:Addr}{xs:List V}(e:Ai H H')(h:A0 K H a xs):A0 K H' a xs:=by
 rcases h with (h|⟨o,h⟩)|h
 ·exact .inl (.inl (e _ _ h))
 ·exact .inl (.inr ⟨o,e _ _ h⟩)
 ·exact .inr h
end L2
section
namespace L2
open PySem PySem.Spec PyProof.Rows
section
variable {κ:Type}[DecidableEq κ]
def B1 (kvs:List (κ×V))(k:κ):Option V:=(kvs.find? fun kv=>decide (kv.1=k)).map (·.2)
def Cb (kvs:List (κ×V))(k:κ)(v:V):List (κ×V):=
 if (kvs.any fun kv=>decide (kv.1=k))=true then kvs.map (fun kv=>if kv.1=k then (kv.1,v) else kv) else kvs++[(k,v)]
def Fg (kvs:List (κ×V))(k:κ):List (κ×V):=kvs.filter fun kv=>decide (kv.1≠k)
theorem Bn {p:κ×V}{r:List (κ×V)}{k:κ}(e:p.1=k):B1 (p::r) k=some p.2:=by simp [B1,List.find?_cons,e]
theorem Bj {p:κ×V}{r:List (κ×V)}{k:κ}(e:¬p.1=k):B1 (p::r) k=B1 r k:=by simp [B1,List.find?_cons,e]
theorem Gs (k:κ):∀kvs:List (κ×V),(kvs.any fun kv=>decide (kv.1=k))=(B1 kvs k).isSome
 |[]=>rfl
 |p::r=>by
  rw [List.any_cons]
  by_cases e:p.1=k
  ·simp only [Bn e,decide_eq_true e,Bool.true_or,Option.isSome_some]
  ·rw [Bj e,decide_eq_false e,Bool.false_or];exact Gs k r
theorem Q8 (k j:κ)(y:V):∀kvs:List (κ×V),B1 (kvs.map fun kv=>if kv.1=k then (kv.1,y) else kv) j=(B1 kvs j).map fun x=>if j=k then y else x
 |[]=>rfl
 | p::r=>by
  have ih:=Q8 k j y r
  rw [List.map_cons]
  by_cases h:p.1=k
  ·rw [if_pos h]
   by_cases e:p.1=j
   ·rw [Bn (p:=(p.1,y)) e,Bn e,Option.map_some,if_pos (e.symm.trans h)]
   ·rw [Bj (p:=(p.1,y)) e,Bj e,ih]
  ·rw [if_neg h]
   by_cases e:p.1=j
   ·rw [Bn (p:=p) e,Bn e,Option.map_some,if_neg (fun z=>h (e.trans z))]
   ·rw [Bj (p:=p) e,Bj e,ih]
theorem N8 (k j:κ)(y:V):∀kvs:List (κ×V),B1 kvs k=none→B1 (kvs++[(k,y)]) j=if j=k then some y else B1 kvs j
 |[],_=>by
  by_cases e:k=j
  ·rw [if_pos e.symm];exact Bn (p:=(k,y)) e
  ·rw [if_neg (fun z=>e z.symm)];exact Bj (p:=(k,y)) e
 |p::r,hn=>by
  rw [List.cons_append]
  have hk:¬p.1=k:=fun z=>by rw [Bn z] at hn;cases hn
  rw [Bj hk] at hn
  have ih:=N8 k j y r hn
  by_cases e:p.1=j
  ·rw [Bn e,Bn e,if_neg (fun z=>hk (e.trans z))]
  ·rw [Bj e,Bj e,ih]
theorem Ek (kvs:List (κ×V))(k j:κ)(y:V):B1 (Cb kvs k y) j=if j=k then some y else B1 kvs j:=by
 unfold Cb
 by_cases a:(kvs.any fun kv=>decide (kv.1=k))=true
 ·rw [if_pos a,Q8]
  rw [Gs] at a
  by_cases e:j=k
  ·obtain ⟨x,hx⟩:=Option.isSome_iff_exists.mp a
   rw [if_pos e,e,hx,Option.map_some,if_pos rfl]
  ·rw [if_neg e]
   cases B1 kvs j with
   |none=>rfl
   |some x=>rw [Option.map_some,if_neg e]
 ·rw [if_neg a]
  refine N8 k j y kvs ?_
  rw [Gs] at a
  cases q:B1 kvs k with
  |none=>rfl
  |some x=>rw [q] at a;exact (a rfl).elim
theorem By (kvs:List (κ×V))(k:κ)(v:V):(Cb kvs k v).length≤kvs.length+1:=by
 unfold Cb
 split
 ·rw [List.length_map];omega
 ·rw [List.length_append,List.length_cons,List.length_nil];omega
theorem X7 {kvs:List (κ×V)}{k:κ}(v:V)(h:B1 kvs k=none):Cb kvs k v=kvs++[(k,v)]:=by
 unfold Cb
 rw [Gs,h]
 exact if_neg (by decide)
theorem F0.isSome_eq {o:Option V}{u:Option Value}(r:F0 o u):o.isSome=u.isSome:=by
 cases o with
 |none=>cases u with
  |none=>rfl
  |some _=>exact (show False from r).elim
 |some _=>cases u with
  |none=>exact (show False from r).elim
  |some _=>rfl
theorem F0.getD {o:Option V}{u:Option Value}{d:V}{d':Value}(r:F0 o u)(rd:RelV d d'):RelV (o.getD d) (u.getD d'):=by
 cases o with
 |none=>cases u with
  |none=>exact rd
  |some _=>exact (show False from r).elim
 |some _=>cases u with
  |none=>exact (show False from r).elim
  |some _=>exact r
theorem KV.val {kvs:List (κ×V)}{vs:List (κ×Value)}(r:KV kvs vs)(k:κ):F0 (B1 kvs k) (valueAt vs k):=by
 unfold KV at r
 induction r with
 |nil=>exact True.intro
 | @cons p q ps qs h t ih=>
  obtain ⟨h1,h2⟩:=h
  by_cases e:p.1=k
  ·have e':q.1=k:=h1.symm.trans e
   have b:valueAt (q::qs) k=some q.2:=by simp [valueAt,List.find?_cons,e']
   rw [Bn e,b];exact h2
  ·have e':¬q.1=k:=fun z=>e (h1.trans z)
   have b:valueAt (q::qs) k=valueAt qs k:=by simp [valueAt,List.find?_cons,e']
   rw [Bj e,b];exact ih
theorem KV.any {kvs:List (κ×V)}{vs:List (κ×Value)}(r:KV kvs vs)(k:κ):(kvs.any fun kv=>decide (kv.1=k))=vs.any fun kv=>decide (kv.1=k):=by
 unfold KV at r
 induction r with
 |nil=>rfl
 |cons h t ih=>rw [List.any_cons,List.any_cons,ih,h.1]
theorem KV.repl {kvs:List (κ×V)}{vs:List (κ×Value)}(r:KV kvs vs)(k:κ){y:V}{u:Value}(ry:RelV y u) :
  KV (kvs.map fun kv=>if kv.1=k then (kv.1,y) else kv) (vs.map fun kv=>if kv.1=k then (kv.1,u) else kv):=by
 unfold KV at r ⊢
 induction r with
 |nil=>exact .nil
 |@cons p q ps qs h t ih=>
  rw [List.map_cons,List.map_cons]
  refine .cons ?_ ih
  obtain ⟨h1,h2⟩:=h
  by_cases e:p.1=k
  ·rw [if_pos e,if_pos (h1.symm.trans e)];exact ⟨h1,ry⟩
  ·rw [if_neg e,if_neg (fun z=>e (h1.trans z))];exact ⟨h1,h2⟩
theorem KV.put {kvs:List (κ×V)}{vs:List (κ×Value)}(r:KV kvs vs)(k:κ){y:V}{u:Value}(ry:RelV y u):KV (Cb kvs k y) (stored vs k u):=by
 unfold Cb stored
 rw [r.any k]
 by_cases e:(vs.any fun kv=>decide (kv.1=k))=true
 ·rw [if_pos e,if_pos e];exact r.repl k ry
 ·rw [if_neg e,if_neg e];exact Paired.snoc r ⟨rfl,ry⟩
theorem KV.drop {kvs:List (κ×V)}{vs:List (κ×Value)}(r:KV kvs vs)(k:κ):KV (Fg kvs k) (without vs k):=by
 unfold KV at r ⊢
 unfold Fg without
 induction r with
 |nil=>exact .nil
 | @cons p q ps qs h t ih=>
  obtain ⟨h1,h2⟩:=h
  rw [List.filter_cons,List.filter_cons]
  by_cases e:p.1=k
  ·have a:¬decide (p.1≠k)=true:=by simp [e]
   have b:¬decide (q.1≠k)=true:=by simp [h1.symm.trans e]
   rw [if_neg a,if_neg b];exact ih
  ·have e':¬q.1=k:=fun z=>e (h1.trans z)
   have a:decide (p.1≠k)=true:=by simp [e]
   have b:decide (q.1≠k)=true:=by simp [e']
   rw [if_pos a,if_pos b];exact .cons ⟨h1,h2⟩ ih
theorem KV.keys {kvs:List (κ×V)}{vs:List (κ×Value)}(r:KV kvs vs):kvs.map (·.1)=vs.map (·.1):=by
 unfold KV at r
 induction r with
 |nil=>rfl
 |cons h t ih=>rw [List.map_cons,List.map_cons,ih,h.1]
theorem KV.length {kvs:List (κ×V)}{vs:List (κ×Value)}(r:KV kvs vs):kvs.length=vs.length:=Paired.length r
theorem Yn (kvs:List (κ×V))(k:κ):(Fg kvs k).length≤kvs.length:=List.length_filter_le _ _
end
theorem Ky {P:Program}{w:World}{k:Bl}{u:Value}(r:RelV (kV k) u):(A3 P w).is k u=true:=by
 cases k with
 |inl i=>obtain ⟨t,e⟩:=(show ∃t,u=Value.int i t from r);subst e;exact Q3 P w i t
 |inr x=>obtain ⟨t,e⟩:=(show ∃t,u=Value.str x t from r);subst e;exact Q4 P w x t
theorem Oo {P:Program}{w:World}:∀{ks:List Bl} {us:List Value},Az (ks.map kV) us→ItemsAre (A3 P w) ks us
 |[],_,r=>by rw [List.map_nil] at r;cases r;exact .nil
 |k::ks,_,r=>by
  rw [List.map_cons] at r
  cases r with
  |cons h t=>exact .cons (Ky h) (Oo t)
abbrev KT (H:Hp):List (List Bl×V)→List (List Bl×Addr×Value)→Prop:=Paired fun p q=>p.1=q.1∧H q.2.1=some (.tup (p.1.map kV))∧RelV p.2 q.2.2
theorem KT.val {H:Hp}{kvs:List (List Bl×V)}{xs:List (List Bl×Addr×Value)}(r:KT H kvs xs)(k:List Bl):F0 (B1 kvs k) ((atKey xs k).map (·.2)):=by
 induction r with
 |nil=>exact True.intro
 | @cons p q ps qs h t ih=>
  obtain ⟨h1,_,h2⟩:=h
  by_cases e:p.1=k
  ·have e':q.1=k:=h1.symm.trans e
   have b:atKey (q::qs) k=some q.2:=by simp [atKey,List.find?_cons,e']
   rw [Bn e,b];exact h2
  ·have e':¬q.1=k:=fun z=>e (h1.trans z)
   have b:atKey (q::qs) k=atKey qs k:=by simp [atKey,List.find?_cons,e']
   rw [Bj e,b];exact ih
theorem KT.repl {H:Hp}{kvs:List (List Bl×V)}{xs:List (List Bl×Addr×Value)}(r:KT H kvs xs)(k:List Bl){y:V}{u:Value}(ry:RelV y u) :
  KT H (kvs.map fun kv=>if kv.1=k then (kv.1,y) else kv) (xs.map (putAt k u)):=by
 induction r with
 |nil=>exact .nil
 |@cons p q ps qs h t ih=>
  rw [List.map_cons,List.map_cons]
  refine .cons ?_ ih
  obtain ⟨h1,h2,h3⟩:=h
  unfold putAt
  by_cases e:p.1=k
  ·rw [if_pos e,if_pos (h1.symm.trans e)];exact ⟨h1,h2,ry⟩
  ·rw [if_neg e,if_neg (fun z=>e (h1.trans z))];exact ⟨h1,h2,h3⟩
theorem KT.put {H:Hp}{kvs:List (List Bl×V)}{xs:List (List Bl×Addr×Value)}(r:KT H kvs xs)(k:List Bl){b:Addr}{y:V}{u:Value}(hb:H b=some (.tup (k.map kV)))(ry:RelV y u) :
  KT H (Cb kvs k y) (storedH xs k b u):=by
 have e:(kvs.any fun kv=>decide (kv.1=k))=(atKey xs k).isSome:=by
  rw [Gs,(r.val k).isSome_eq,Option.isSome_map]
 unfold Cb storedH
 rw [e]
 by_cases q:(atKey xs k).isSome=true
 ·rw [if_pos q,if_pos q];exact r.repl k ry
 ·rw [if_neg q,if_neg q];exact Paired.snoc r ⟨rfl,hb,ry⟩
theorem KT.keeps {H H':Hp}{kvs:List (List Bl×V)}{xs:List (List Bl×Addr×Value)}(r:KT H kvs xs)(ht:∀b ys,H b=some (.tup ys)→H' b=some (.tup ys)):KT H' kvs xs:=
 Paired.mapP r fun _ _ z=>⟨z.1,ht _ _ z.2.1,z.2.2⟩
section
variable {P:Program}{w:World}{H:Hp}{h:Heap}{a:Addr}
theorem Adq {u:HO}(ok:G9 P w H h)(e:Rd H a u):A4 P w H h a u:=e.ok ok
theorem Jb {kvs:List (Bl×V)}(ok:G9 P w H h)(e:Rd H a (.dK kvs)):kvs.length≤sizeLine∧(a==sysModules)=false∧∃vs,KV kvs vs∧h.DictOf (A3 P w) a vs:=
 show A4 P w H h a (.dK kvs) from Adq ok e
theorem Uu {kvs:List (Bl×V)}(ok:G9 P w H h)(e:H a=some (.dK kvs)):kvs.length≤sizeLine∧(a==sysModules)=false∧∃vs,KV kvs vs∧h.DictOf (A3 P w) a vs:=Jb ok (.inl e)
theorem Js {ks:List Bl}(ok:G9 P w H h)(e:H a=some (.tup (ks.map kV))):(tupleKind (A3 P w)).is h ks a:=by
 obtain ⟨_,its,r,o,h1,h2,n,h3⟩:=(show A4 P w H h a (.tup (ks.map kV)) from ok a _ e)
 exact ⟨o,its.toArray,n,h1,h2,h3,by simpa using Oo r⟩
theorem M3 {kvs:List (List Bl×V)}(ok:G9 P w H h)(e:Rd H a (.dT kvs)):kvs.length≤sizeLine∧(a==sysModules)=false ∧
  ∃xs,KT H kvs xs∧h.DictOfH (tupleKind (A3 P w)) a xs:=by
 obtain ⟨z,y,xs,r,o,es,ep,h1,h2,h3,h4,h5⟩:=(show A4 P w H h a (.dT kvs) from Adq ok e)
 refine ⟨z,y,xs,r,o,es,ep,h1,h2,h3,h4,fun x hx=>?_,h5⟩
 have all:∀{l:List (List Bl×V)} {m:List (List Bl×Addr×Value)},KT H l m→∀x∈m,(tupleKind (A3 P w)).is h x.1 x.2.1:=by
  intro l m q
  induction q with
  |nil=>intro x hx;exact nomatch hx
  | @cons p q ps qs hq t ih=>
   intro x hx
   rcases List.mem_cons.mp hx with e|hx
   ·subst e
    exact Js ok (by rw [←hq.1];exact hq.2.1)
   ·exact ih x hx
 exact all r x hx
theorem Aje {kvs:List (List Bl×V)}(ok:G9 P w H h)(e:H a=some (.dT kvs)):kvs.length≤sizeLine∧(a==sysModules)=false ∧
  ∃xs,KT H kvs xs∧h.DictOfH (tupleKind (A3 P w)) a xs:=M3 ok (.inl e)
end
def Et (H:Hp)(a:Addr)(y:V)(r:Option V):Prop:=
 (∃kvs k,Rd H a (.dK kvs)∧y=kV k∧r=B1 kvs k)∨∃kvs k b,Rd H a (.dT kvs)∧y=.ref b∧H b=some (.tup (k.map kV))∧r=B1 kvs k
def Nk (H:Hp)(a:Addr)(y v:V)(H':Hp):Prop:=
 (∃kvs k,H a=some (.dK kvs)∧y=kV k∧kvs.length<sizeLine∧H'=upd H a (.dK (Cb kvs k v))) ∨
 ∃kvs k b,H a=some (.dT kvs)∧y=.ref b∧H b=some (.tup (k.map kV))∧kvs.length<sizeLine∧H'=upd H a (.dT (Cb kvs k v))
theorem Et.k {H:Hp}{a:Addr}{kvs:List (Bl×V)}{k:Bl}(e:H a=some (.dK kvs)):Et H a (kV k) (B1 kvs k):=.inl ⟨kvs,k,.inl e,rfl,rfl⟩
theorem Nk.k {H:Hp}{a:Addr}{kvs:List (Bl×V)}{k:Bl}{v:V}(e:H a=some (.dK kvs))(hl:kvs.length<sizeLine):Nk H a (kV k) v (upd H a (.dK (Cb kvs k v))):=.inl ⟨kvs,k,e,rfl,hl,rfl⟩
section
variable {X:Cx}{pins:List (Addr×Obj)}{σ:St}{H:Hp}{s:Shared}{a:Addr}{y v:V}{u r:Value}{o:Option V}{A:Around}{E:Value→Shared→Prop}
theorem Ap.big (I:Ap X pins σ H s):sysModules<s.heap.objs.size:=by
 have h:mainGlobals<s.heap.objs.size:=(I.mod.glob.keeps I.bk).lt
 exact Nat.lt_trans (by decide) h
theorem Wl {Q:Value→Shared→Prop}(hu:A.units+1<cLine)(I:Ap X pins σ H s)(g:Et H a y (some v))(ry:RelV y u)(h:∀w' s',Ap X pins σ H s'→RelV v w'→Q w' s') :
  wpAny (model X.prog X.w) A (getItem (.ref a) u) Q E s:=by
 rcases g with ⟨kvs,k,e,ey,l⟩|⟨kvs,k,b,e,ey,eb,l⟩
 ·subst ey
  obtain ⟨z,hd,vs,rel,dd⟩:=Jb I.hok e
  obtain ⟨w',hw,rw'⟩:=F0.some_of (v:=v) (o:=valueAt vs k) (by rw [l];exact rel.val k)
  exact wpAny_getItem_of (Ky ry) dd.mapOf hw (h w' _ (I.tok _) rw')
 ·subst ey
  cases (show u=Value.ref b from ry)
  obtain ⟨z,hd,xs,rel,dd⟩:=M3 I.hok e
  obtain ⟨w',hw,rw'⟩:=F0.some_of (v:=v) (o:=(atKey xs k).map (·.2)) (by rw [l];exact rel.val k)
  obtain ⟨p,hp,hp2⟩:=Option.map_eq_some_iff.mp hw
  refine wpAny_getItem_heap (tupleKind_room_in1 hu) (Js I.hok eb) dd hp ?_
  rw [hp2]
  exact h w' _ (I.tok _) rw'
theorem Ak2 {Q:Value→Shared→Prop}(hu:A.units+1<cLine)(I:Ap X pins σ H s)(g:Et H a y o)(ry:RelV y u)(h:∀s',Ap X pins σ H s'→Q (.bool o.isSome) s') :
  wpAny (model X.prog X.w) A (compareOp .In u (.ref a)) Q E s:=by
 rcases g with ⟨kvs,k,e,ey,l⟩|⟨kvs,k,b,e,ey,eb,l⟩
 ·subst ey
  obtain ⟨z,hd,vs,rel,dd⟩:=Jb I.hok e
  refine wpAny_in_of (Ky ry) hd dd.mapOf ?_
  rw [←(rel.val k).isSome_eq,←l]
  exact h _ (I.tok _)
 ·subst ey
  cases (show u=Value.ref b from ry)
  obtain ⟨z,hd,xs,rel,dd⟩:=M3 I.hok e
  refine wpAny_in_heap (tupleKind_room_in1 hu) (Js I.hok eb) hd dd ?_
  have q:=(rel.val k).isSome_eq
  rw [Option.isSome_map] at q
  rw [←q,←l]
  exact h _ (I.tok _)
theorem Abw {Q:Value→Shared→Prop}(hu:A.units+1<cLine)(I:Ap X pins σ H s)(g:Et H a y o)(ry:RelV y u)(h:∀s',Ap X pins σ H s'→Q (.bool (!o.isSome)) s') :
  wpAny (model X.prog X.w) A (compareOp .NotIn u (.ref a)) Q E s:=by
 rcases g with ⟨kvs,k,e,ey,l⟩|⟨kvs,k,b,e,ey,eb,l⟩
 ·subst ey
  obtain ⟨z,hd,vs,rel,dd⟩:=Jb I.hok e
  refine wpAny_notIn_of (Ky ry) hd dd.mapOf ?_
  rw [←(rel.val k).isSome_eq,←l]
  exact h _ (I.tok _)
 ·subst ey
  cases (show u=Value.ref b from ry)
  obtain ⟨z,hd,xs,rel,dd⟩:=M3 I.hok e
  refine wpAny_notIn_heap (tupleKind_room_in1 hu) (Js I.hok eb) hd dd ?_
  have q:=(rel.val k).isSome_eq
  rw [Option.isSome_map] at q
  rw [←q,←l]
  exact h _ (I.tok _)
theorem Ou {h':Heap}{t':Nat}{ob:HO}(I:Ap X pins σ H s)(mu:Mut (H a))(hs:Heap.SameBut a s.heap h')(he:∃q,h'.get? a=some q)(new:A4 X.prog X.w (upd H a ob) h' a ob) :
  Ap X pins σ (upd H a ob) { s with heap:=h',toks:=t' } :=
 I.write (x:=a) (e:=a) mu (.inl rfl) (fun b q hb z=>(hs.2 b hb).trans z) he new
theorem Tr {P:Program}{w:World}{H':Hp}{h':Heap}{kvs:List (Bl×V)}{vs:List (Bl×Value)}(z:kvs.length≤sizeLine)(hd:(a==sysModules)=false)(rel:KV kvs vs)(dd:h'.DictOf (A3 P w) a vs) :
  A4 P w H' h' a (.dK kvs):=⟨z,hd,vs,rel,dd⟩
theorem Xk {H':Hp}{Q:Unit→Shared→Prop}(hu:A.units+1<cLine)(I:Ap X pins σ H s)(g:Nk H a y v H')(ry:RelV y u)(rv:RelV v r)(h:∀s',Ap X pins σ H' s'→Q () s') :
  wpAny (model X.prog X.w) A (setItem (.ref a) u r) Q E s:=by
 rcases g with ⟨kvs,k,e,ey,l,eH⟩|⟨kvs,k,b,e,ey,eb,l,eH⟩
 ·subst ey eH
  obtain ⟨z,hd,vs,rel,dd⟩:=Uu I.hok e
  have hz:vs.length≤sizeLine:=by rw [←rel.length];exact z
  have hl:(Cb kvs k v).length≤sizeLine:=by have:=By kvs k v;omega
  refine wpAny_setItem_pairs (hsz:=hz) (Ky ry) dd fun h' dd' hs=>h _ ?_
  have he:∃q,h'.get? a=some q:=let ⟨q,_,_,hq,_⟩:=dd';⟨q,hq⟩
  exact Ou I (by rw [e];exact True.intro) hs he (Tr hl hd (rel.put k rv) dd')
 ·subst ey eH
  cases (show u=Value.ref b from ry)
  obtain ⟨z,hd,xs,rel,dd⟩:=Aje I.hok e
  have hz:xs.length≤sizeLine:=by rw [←Paired.length rel];exact z
  have hl:(Cb kvs k v).length≤sizeLine:=by have:=By kvs k v;omega
  refine wpAny_setItem_heap (hsz:=hz) (tupleKind_room_in1 hu) (Js I.hok eb) dd fun h' dd' hs=>h _ ?_
  obtain ⟨q,es,ep,hq,h2,h3,h4,_,h5⟩:=dd'
  refine Ou I (by rw [e];exact True.intro) hs ⟨q,hq⟩ ⟨hl,hd,_,(rel.put k eb rv).keeps fun c ys ec=>?_,q,es,ep,hq,h2,h3,h4,h5⟩
  rw [Ak (Ai3 ec e (fun z=>nomatch z))]
  exact ec
end
section
variable {X:Cx}{pins:List (Addr×Obj)}{σ:St}{H:Hp}{s:Shared}{a:Addr}{kvs:List (Bl×V)}{k:Bl}{u:Value}{A:Around}{E:Value→Shared→Prop}
theorem Aij {v:V}{more:List Value}{Q:Value→Shared→Prop}(I:Ap X pins σ H s)(e:H a=some (.dK kvs))(ry:RelV (kV k) u)(l:B1 kvs k=some v)(hm:more=[]∨∃x,more=[x])
  (h:∀w' s',Ap X pins σ (upd H a (.dK (Fg kvs k))) s'→RelV v w'→Q w' s'):wpAny (model X.prog X.w) A (call (.builtin "dict.pop") (.ref a::u::more)) Q E s:=by
 obtain ⟨z,hd,vs,rel,dd⟩:=Uu I.hok e
 obtain ⟨w',hw,rw'⟩:=F0.some_of (v:=v) (o:=valueAt vs k) (by rw [←l];exact rel.val k)
 have hp:(keyPart u).isSome=true:=by
  cases k with
  |inl i=>obtain ⟨t,q⟩:=(show ∃t,u=Value.int i t from ry);subst q;rfl
  |inr x=>obtain ⟨t,q⟩:=(show ∃t,u=Value.str x t from ry);subst q;rfl
 have ha:argsOk "dict.pop" ⟨.ref a::u::more,[]⟩:=by
  rcases hm with q|⟨x,q⟩
  ·subst q;exact PySem.F.args_dict_pop_2 _ _
  ·subst q;exact PySem.F.args_dict_pop_3 _ _ _
 refine call_meetsIn PySem.F.slot_dict_pop dd.typeIs PySem.F.entry_dict_pop ha (meets_dict_pop_there (A3 X.prog X.w) a (Ky ry) more hm hp)
  ⟨vs,w',dd,by rw [←rel.length];exact z,hw,fun h' dd' hs=>h w' _ ?_ rw'⟩
 have he:∃q,h'.get? a=some q:=let ⟨q,_,_,hq,_⟩:=dd';⟨q,hq⟩
 exact Ou I (by rw [e];exact True.intro) hs he (Tr (Nat.le_trans (Yn kvs k) z) hd (rel.drop k) dd')
theorem Ajf {Q:Value→Shared→Prop}(I:Ap X pins σ H s)(e:Rd H a (.dK kvs))(h:∀t s',Ap X pins σ H s'→Q (.int kvs.length t) s'):wpAny (model X.prog X.w) A (call (.builtin "len") [.ref a]) Q E s:=by
 obtain ⟨z,hd,vs,rel,dd⟩:=Jb I.hok e
 refine call_len_dict hd dd (by rw [←rel.length];rw [sizeLine_eq] at z;omega) ?_
 rw [←rel.length]
 exact h _ _ (I.tok _)
end
def Aiw (i:Expr):Prop:=∀ov iv,subscripted i false ov iv=operate [ov,iv] (getItem ov iv)
theorem Acu {prog:Program}{w:World}{A:Around}{E:Value→Shared→Prop}{s:Shared}{env:Env}{value slice:Expr}{pos:Pos}{T id:String}{Q:Value→Shared→Prop}
  (hl:typeLookup (.type T) "__getitem__"=pure (some (.builtin id))) (hs:Aiw slice)
  (h:wpAny (model prog w) A (eval value env) (fun o s₁=>wpAny (model prog w) A (eval slice env) (fun i s₂=>s₂.TypeIs o T∧wpAny (model prog w) A (getItem o i) Q E s₂) E s₁) E s) :
  wpAny (model prog w) A (eval (.Subscript value slice pos) env) Q E s:=by
 refine Subscript_ (wpAny_mono h (fun o s₁ h₁=>wpAny_mono h₁ (fun i s₂ h₂=>?_) fun _ _ x=>x) fun _ _ x=>x)
 obtain ⟨hT,h₂⟩:=h₂
 unfold subscriptTail
 refine wpAny_bind ?_
 rw [getitemInPython_of_ne hT.not_modules]
 refine wpAny_bind (wpAny_specialOf hT hl ?_)
 have fin:wpAny (model prog w) A (subscripted slice false o i) (fun r s₃=>wpAny (model prog w) A (letTemporaryGo value o r >>= fun _=>pure r) Q E s₃) E s₂:=by
  rw [hs o i]
  exact wpAny_operating (wpAny_mono h₂ (fun r s₃ h₃=>wpAny_bind (wpAny_letTemporaryGo (wpAny_pure h₃))) fun _ _ x=>x)
 first
  |exact wpAny_pure (wpAny_bind fin)
  |exact wpAny_bind (wpAny_pure (wpAny_bind fin))
  |exact wpAny_bind fin
theorem Rv {X:Cx}{pins:List (Addr×Obj)}{σ:St}{H:Hp}{s:Shared}{a:Addr}{y:V}{o:Option V}(I:Ap X pins σ H s)(g:Et H a y o):s.TypeIs (.ref a) "dict":=by
 rcases g with ⟨kvs,k,e,_,_⟩|⟨kvs,k,b,e,_,_,_⟩
 ·obtain ⟨_,_,vs,_,dd⟩:=Jb I.hok e
  exact dd.typeIs
 ·obtain ⟨_,_,xs,_,dd⟩:=M3 I.hok e
  exact dd.typeIs
def Aik (td ty:TE):TE:=fun σ H Q=>td σ H fun x H1=>ty σ H1 fun y H2=>∃a v,x=.ref a∧Et H2 a y (some v)∧Q v H2
def Ahh (ty td:TE):TE:=fun σ H Q=>ty σ H fun y H1=>td σ H1 fun x H2=>∃a o,x=.ref a∧Et H2 a y o∧Q (.bl o.isSome) H2
def Ur (ty td:TE):TE:=fun σ H Q=>ty σ H fun y H1=>td σ H1 fun x H2=>∃a o,x=.ref a∧Et H2 a y o∧Q (.bl (!o.isSome)) H2
def Ajg (td ty tv:TE):TS:=fun D σ H=>tv σ H fun v H1=>td σ H1 fun x H2=>ty σ H2 fun y H3=>∃a H4,x=.ref a∧Nk H3 a y v H4∧D.nx σ H4
section
variable {X:Cx}{o i e value:Expr}{pos pos' tpos:Pos}{td ty tv:TE}
theorem G8 (hu:X.A.units+1<cLine)(ho:PE X o td)(hi:PE X i ty)(hs:Aiw i):PE X (.Subscript o i pos) (Aik td ty):=by
 intro pins s σ H Q I h
 refine Acu PySem.F.slot_dict_getitem.lookup hs (Ba (ho pins s σ H _ I h) fun u s1 ⟨x,H1,I1,rx,q1⟩=>Ba (hi pins s1 σ H1 _ I1 q1) fun iv s2 ⟨y,H2,I2,ry,a,v,ex,g,q2⟩=>?_)
 subst ex
 obtain rfl:u=Value.ref a:=rx
 exact ⟨Rv I2 g,Wl hu I2 g ry fun w' s3 I3 rw'=>⟨v,H2,I3,rw',q2⟩⟩
theorem Afo (hu:X.A.units+1<cLine)(hi:PE X i ty)(ho:PE X o td):PC X .In i o (Ahh ty td):=by
 intro pins s σ H Q I h
 refine Ba (hi pins s σ H _ I h) fun iv s1 ⟨y,H1,I1,ry,q1⟩=>Ba (ho pins s1 σ H1 _ I1 q1) fun u s2 ⟨x,H2,I2,rx,a,ov,ex,g,q2⟩=>?_
 subst ex
 obtain rfl:u=Value.ref a:=rx
 exact Ak2 hu I2 g ry fun s3 I3=>⟨.bl ov.isSome,H2,I3,rfl,q2⟩
theorem Wo (hu:X.A.units+1<cLine)(hi:PE X i ty)(ho:PE X o td):PC X .NotIn i o (Ur ty td):=by
 intro pins s σ H Q I h
 refine Ba (hi pins s σ H _ I h) fun iv s1 ⟨y,H1,I1,ry,q1⟩=>Ba (ho pins s1 σ H1 _ I1 q1) fun u s2 ⟨x,H2,I2,rx,a,ov,ex,g,q2⟩=>?_
 subst ex
 obtain rfl:u=Value.ref a:=rx
 exact Abw hu I2 g ry fun s3 I3=>⟨.bl (!ov.isSome),H2,I3,rfl,q2⟩
theorem Hb (hu:X.A.units+1<cLine)(ho:PE X o td)(hi:PE X i ty)(hv:PE X value tv)(hs:swapsWith value (some (.Subscript o i pos')) pos.line X.env=pure false) :
  PS X (.Assign [.Subscript o i pos'] value pos) (Ajg td ty tv):=by
 intro pins s σ H D I h
 refine wpAny_Assign_Subscript (Ba (hv pins s σ H _ I h) fun r s1 ⟨v,H1,I1,rv,q1⟩=>Ba (ho pins s1 σ H1 _ I1 q1) fun u s2 ⟨x,H2,I2,rx,q2⟩=>Ba (hi pins s2 σ H2 _ I2 q2) fun iv s3 ⟨y,H3,I3,ry,a,H4,ex,g,q3⟩=>?_) hs
 subst ex
 obtain rfl:u=Value.ref a:=rx
 exact Xk hu I3 g ry rv fun s4 I4=>⟨σ,H4,I4,q3⟩
end
theorem Ze {P:Program}{w:World}{H:Hp}(h:Heap)(hb:sysModules<h.objs.size):A4 P w H (h.push { cls:=.type "dict",data:=.dict #[] }) h.objs.size (.dK []):=
 ⟨Nat.zero_le _,beq_eq_false_iff_ne.mpr (Ne.symm (Nat.ne_of_lt hb)),[],.nil,Heap.DictOf.new h⟩
def Aeo:TE:=fun _ H Q=>∀p,H p=none→Q (.ref p) (upd H p (.dK []))
section
variable {X:Cx}{pos:Pos}
theorem Gw:PE X (.Dict [] [] pos) Aeo:=fun pins s σ H Q I h=>
 wpAny_Dict_empty ⟨.ref s.heap.objs.size,_,I.laid (a:=s.heap.objs.size) (o:=.dK []) (t':=s.toks) (fun _ _ q=>Heap.get?_push_of_some _ q) (Nat.le_refl _) (Ze s.heap I.big),rfl,h _ (I.hok.fresh (Nat.le_refl _))⟩
end
structure M1 (X:Cx)(o:Expr)(m:Str)(apos:Pos)(e:Expr)(cpos:Pos):Prop where
 base:attributeBase o m X.env (eval o X.env)=eval o X.env
 few:((backTo cpos (starEach [e] X.env)).all (fun x=>!x.1)&&(backToKw cpos (keywordEach [] X.env)).all (fun x=>x.1.isSome)
  && decide (([e]:List Expr).length+([]:List Keyword).length+(if ([]:List Keyword).isEmpty then 0 else 1)<30))=true
 line:(apos.endLine==cpos.line)=true
 trees:backTo cpos (starEach [e] X.env)=[(false,eval e X.env)]
structure M2 (X:Cx)(o:Expr)(m:Str)(apos:Pos)(e f:Expr)(cpos:Pos):Prop where
 base:attributeBase o m X.env (eval o X.env)=eval o X.env
 few:((backTo cpos (starEach [e,f] X.env)).all (fun x=>!x.1)&&(backToKw cpos (keywordEach [] X.env)).all (fun x=>x.1.isSome)
  && decide (([e,f]:List Expr).length+([]:List Keyword).length+(if ([]:List Keyword).isEmpty then 0 else 1)<30))=true
 line:(apos.endLine==cpos.line)=true
 trees:backTo cpos (starEach [e,f] X.env)=[(false,eval e X.env),(false,eval f X.env)]
def IsD (H:Hp)(a:Addr):Prop:=(∃kvs,Rd H a (.dK kvs))∨∃kvs,Rd H a (.dT kvs)
theorem Ti {X:Cx}{pins:List (Addr×Obj)}{σ:St}{H:Hp}{s:Shared}{a:Addr}(I:Ap X pins σ H s)(d:IsD H a) :
  s.TypeIs (.ref a) "dict"∧(∀b,Value.ref a=.ref b→∃ob,s.heap.get? b=some ob∧ob.dict=none)∧(a==sysModules)=false:=by
 rcases d with ⟨kvs,e⟩|⟨kvs,e⟩
 ·obtain ⟨_,hd,vs,_,dd⟩:=Jb I.hok e
  refine ⟨dd.typeIs,fun b q=>?_,hd⟩
  cases q
  obtain ⟨ob,_,_,h1,h2,_⟩:=dd
  exact ⟨ob,h1,h2.2.1⟩
 ·obtain ⟨_,hd,xs,_,dd⟩:=M3 I.hok e
  refine ⟨dd.typeIs,fun b q=>?_,hd⟩
  cases q
  obtain ⟨ob,_,_,h1,h2,_⟩:=dd
  exact ⟨ob,h1,h2.2.1⟩
section
variable {X:Cx}{pins:List (Addr×Obj)}{σ:St}{H:Hp}{s:Shared}{a:Addr}{y d:V}{u r:Value}{o:Option V}{A:Around}{E:Value→Shared→Prop}
theorem Af7 {Q:Value→Shared→Prop}(hu:A.units+1<cLine)(I:Ap X pins σ H s)(g:Et H a y o)(ry:RelV y u)(rd:RelV d r)(h:∀w' s',Ap X pins σ H s'→RelV (o.getD d) w'→Q w' s') :
  wpAny (model X.prog X.w) A (call (.builtin "dict.get") [.ref a,u,r]) Q E s:=by
 rcases g with ⟨kvs,k,e,ey,l⟩|⟨kvs,k,b,e,ey,eb,l⟩
 ·subst ey
  obtain ⟨z,hd,vs,rel,dd⟩:=Jb I.hok e
  refine call_meetsIn PySem.F.slot_dict_get dd.typeIs PySem.F.entry_dict_get (PySem.F.args_dict_get_3 _ _ _) (meets_dict_get_default (A3 X.prog X.w) a (Ky ry) hd r) ⟨_,dd.mapOf,h _ _ (I.tok _) ?_⟩
  rw [l]
  exact (rel.val k).getD rd
 ·subst ey
  cases (show u=Value.ref b from ry)
  obtain ⟨z,hd,xs,rel,dd⟩:=M3 I.hok e
  refine call_meetsIn PySem.F.slot_dict_get dd.typeIs PySem.F.entry_dict_get (PySem.F.args_dict_get_3 _ _ _) (meetsH_dict_get_default (tupleKind (A3 X.prog X.w)) a b hd r) ⟨tupleKind_room_in1 hu,k,xs,Js I.hok eb,dd,h _ _ (I.tok _) ?_⟩
  rw [l]
  exact (rel.val k).getD rd
end
def Agu (td ty tx:TE):TE:=fun σ H Q=>td σ H fun x H1=>∃a,x=.ref a∧IsD H1 a∧ty σ H1 fun y H2=>tx σ H2 fun z H3=>∃o,Et H3 a y o∧Q (o.getD z) H3
def Ael (td ty:TE):TE:=fun σ H Q=>td σ H fun x H1=>∃a,x=.ref a∧IsD H1 a∧ty σ H1 fun y H2=>∃kvs k v,H2 a=some (.dK kvs)∧y=kV k∧B1 kvs k=some v∧Q v (upd H2 a (.dK (Fg kvs k)))
section
variable {X:Cx}{o e f:Expr}{apos cpos:Pos}{td ty tx:TE}
theorem Gc (hu:X.A.units+1<cLine)(ho:PE X o td)(he:PE X e ty)(hf:PE X f tx)(m:M2 X o "get" apos e f cpos):PE X (.Call (.Attribute o "get" apos) [e,f] [] cpos) (Agu td ty tx):=by
 intro pins s σ H Q I h
 refine wpAny_Call_method m.base m.few m.line PySem.F.plainAttrs_dict PySem.F.slot_dict_get PySem.F.type_dict_get (Ba (ho pins s σ H _ I h) fun u s1 ⟨x,H1,I1,rx,a,ex,d,q1⟩=>?_)
 subst ex
 obtain rfl:u=Value.ref a:=rx
 obtain ⟨t1,t2,_⟩:=Ti I1 d
 refine ⟨t1,t2,?_⟩
 rw [m.trees]
 refine Calls.callWith_builtin rfl (Calls.evalArgs_plain (Calls.spliced_cons (Ba (he pins s1 σ H1 _ I1 q1) fun iv s2 ⟨y,H2,I2,ry,q2⟩=>
  Calls.spliced_cons (Ba (hf pins s2 σ H2 _ I2 q2) fun fv s3 ⟨z,H3,I3,rz,ov,g,q3⟩=>Calls.spliced_nil ?_))))
 exact Af7 hu I3 g ry rz fun w' s4 I4 rw'=>⟨_,H3,I4,rw',q3⟩
theorem Zx (ho:PE X o td)(he:PE X e ty)(m:M1 X o "pop" apos e cpos):PE X (.Call (.Attribute o "pop" apos) [e] [] cpos) (Ael td ty):=by
 intro pins s σ H Q I h
 refine wpAny_Call_method m.base m.few m.line PySem.F.plainAttrs_dict PySem.F.slot_dict_pop PySem.F.type_dict_pop (Ba (ho pins s σ H _ I h) fun u s1 ⟨x,H1,I1,rx,a,ex,d,q1⟩=>?_)
 subst ex
 obtain rfl:u=Value.ref a:=rx
 obtain ⟨t1,t2,_⟩:=Ti I1 d
 refine ⟨t1,t2,?_⟩
 rw [m.trees]
 refine Calls.callWith_builtin rfl (Calls.evalArgs_plain (Calls.spliced_cons (Ba (he pins s1 σ H1 _ I1 q1) fun iv s2 ⟨y,H2,I2,ry,kvs,k,v,ea,ey,l,q2⟩=>Calls.spliced_nil ?_)))
 subst ey
 exact Aij I2 ea ry l (.inl rfl) fun w' s3 I3 rw'=>⟨v,_,I3,rw',q2⟩
end
section
variable {X:Cx}{pins:List (Addr×Obj)}{σ:St}{H:Hp}{s:Shared}{a:Addr}{kvs:List (Bl×V)}{A:Around}{E:Value→Shared→Prop}
end
section
variable {X:Cx}{pins:List (Addr×Obj)}{σ:St}{H:Hp}{s:Shared}{a:Addr}{y:V}{u:Value}{A:Around}{E:Value→Shared→Prop}
end
end L2
namespace L2
open PySem PySem.Spec PyProof.Rows
section
variable {X:Cx}
theorem W8:B6 X (.builtin "len") (fun xs H Q=>∃a kvs,xs=[V.ref a]∧H a=some (.dK kvs)∧Q (.int kvs.length) H):=by
 intro pins s σ H xs us Q I r h
 obtain ⟨a,kvs,rfl,ha,q⟩:=h
 obtain ⟨u,rfl,ru⟩:=Jh r
 cases ru
 exact Ajf I (.inl ha) fun t s' I'=>⟨.int kvs.length,H,I',⟨t,rfl⟩,q⟩
end
section
variable {κ:Type}[DecidableEq κ]
end
end L2
end
section
namespace Lw
open PySem PySem.Spec PyProof.Rows L2
theorem Mq {P:Program}{w:World}{H:Hp}{h:Heap}{a:Addr}{o:HO}(x:A4 P w H h a o):∃u,h.get? a=some u:=by
 cases o with
 |lst xs=>obtain ⟨_,_,_,_,e⟩:=x;exact ⟨_,e⟩
 |tup xs=>obtain ⟨_,_,_,o,e,_⟩:=x;exact ⟨_,e⟩
 |dK kvs=>obtain ⟨_,_,_,_,o,_,_,e,_⟩:=x;exact ⟨_,e⟩
 |dT kvs=>obtain ⟨_,_,_,_,o,_,_,e,_⟩:=x;exact ⟨_,e⟩
 |set S n=>obtain ⟨o,_,_,_,e,_⟩:=x;exact ⟨_,e⟩
 |ins C dx fs=>obtain ⟨_,_,_,e,_⟩:=x;exact ⟨_,e⟩
 |own y=>exact x
 |xd fs=>obtain ⟨_,⟨_,_,_,e,_⟩,_⟩:=x;exact ⟨_,e⟩
 |rng lo hi=>obtain ⟨_,_,_,e⟩:=x;exact ⟨_,e⟩
 |frz ob u=>exact ⟨_,x.1⟩
 |tbl ps=>exact ⟨_,x⟩
 |met f y=>exact ⟨_,x⟩
 |ext φ=>exact x.2.1
structure We (P:Program)(w:World)(outer:List Env)(H:Hp)(s:Shared)(H':Hp)(a:Addr)(cls:Value)(B:Heap)(a0:Value)(s':Shared):Prop where
 os:s'.os=s.os
 bare:AllBare s'.gens
 un:Un (Ie outer) [] H H' s.heap s'.heap
 hok:G9 P w H' s'.heap
 fresh:s.heap.get? a=none
 free:H' a=none
 fly:Heap.FlyingW B outer a cls a0 s'.heap
 trk:∀b o,H' b≠none→s'.heap.get? b=some o→B.get? b=some o
 old:∀b o,s.heap.get? b=some o→H b=none→b∉Ie outer→B.get? b=some o
 any:∀b o,s.heap.get? b=some o→b∉Ie outer→∃o',B.get? b=some o'
section
variable {P:Program}{w:World}{outer:List Env}{H H':Hp}{s s':Shared}{a:Addr}{cls a0:Value}{B h5:Heap}
theorem We.slots (F:We P w outer H s H' a cls B a0 s')(U:s'.heap.UpToSlots h5){b:Addr}{o:Obj}(hb:b∈Ie outer)(e:s'.heap.get? b=some o):∃sl,h5.get? b=some { o with slots:=sl }:=by
 obtain ⟨_,o',e',nf⟩:=F.fly.2.2.1.mem hb
 rw [e] at e'
 cases e'
 exact U b o e nf
theorem We.un5 (F:We P w outer H s H' a cls B a0 s')(St:B.StaysIn h5)(U:s'.heap.UpToSlots h5):Un (Ie outer) [] H H' s.heap h5 where
 keep:=fun b o e n hb _=>St b o (F.old b o e n hb)
 slot:=fun b o e n hb hx=>by
  obtain ⟨sl,e1⟩:=F.un.slot b o e n hb hx
  obtain ⟨sl2,e2⟩:=F.slots U hb e1
  exact ⟨sl2,e2⟩
 free:=F.un.free
 there:=fun b o e hx=>by
  by_cases hb:b∈Ie outer
  ·obtain ⟨o',e1⟩:=F.un.there b o e hx
   obtain ⟨sl,e2⟩:=F.slots U hb e1
   exact ⟨_,e2⟩
  ·obtain ⟨o',e1⟩:=F.any b o e hb
   exact ⟨o',St b o' e1⟩
 tups:=F.un.tups
 frzs:=F.un.frzs
 tbls:=F.un.tbls
theorem We.hok5 (F:We P w outer H s H' a cls B a0 s')(St:B.StaysIn h5):G9 P w H' h5:=fun b u e=>by
 refine (F.hok b u e).stay (fun c v hc q=>St c v (F.trk c v ?_ q)) (fun _ q=>q) fun _ _ q=>q
 rcases hc with z|z
 ·rw [z,e];simp
 ·rw [z];simp
theorem We.trk5 (F:We P w outer H s H' a cls B a0 s')(St:B.StaysIn h5):∀b o,H' b≠none→h5.get? b=some o→B.get? b=some o:=fun b o n e=>by
 cases q:H' b with
 |none=>exact absurd q n
 |some u=>
  obtain ⟨o1,e1⟩:=Mq (F.hok b u q)
  have e2:=F.trk b o1 n e1
  have e3:=St b o1 e2
  rw [e] at e3
  cases e3
  exact e2
end
structure Rt (X:Cx):Prop where
 stk:X.stack=X.env::X.outer
 fr:X.env.frame=some X.env.locals
 ex:X.ex=[]
section
variable {X:Cx}{pins:List (Addr×Obj)}{σ:L2.St}{H H':Hp}{s s':Shared}{M:Model}{E:Value→Shared→Prop}{Q:Unit→Shared→Prop}
theorem Ln (I:Ap X pins σ H s){b:Addr}{o:Obj}(e:X.s₀.heap.get? b=some o)(hb:b∉X.fs):b∉Ie X.stack:=fun z=>by
 rcases List.mem_cons.mp (I.stkSub b z) with q|q
 ·subst q
  exact Nat.lt_irrefl _ (Nat.lt_of_lt_of_le (Heap.lt_size e) I.ok.above)
 ·exact hb q
theorem Rl (D:Rt X)(I:Ap X pins σ H s){a:Addr}(n:s.heap.get? a=none):X.s₀.heap.get? a=none:=by
 cases q:X.s₀.heap.get? a with
 |none=>rfl
 |some o=>
  obtain ⟨o',e⟩:=I.base.there a o q (by rw [D.ex];simp)
  rw [n] at e
  cases e
theorem Afw {a:Addr}{cls a0:Value}{B:Heap}(D:Rt X)(I:Ap X pins σ H s)(F:We X.prog X.w X.stack H s H' a cls B a0 s')
  (k:∀s'',We X.prog X.w X.outer X.H₀ X.s₀ H' a cls B a0 s''→Q () s''):wpAny M X.A (leaving X.env (.ref a)) Q E s':=by
 have hfr:X.A.frames=some (X.env::X.outer):=by rw [I.ok.frames,D.stk]
 have hfl:=F.fly
 rw [D.stk] at hfl
 have hex:∀b:Addr,b∉X.ex:=fun b=>by rw [D.ex];simp
 refine wpAny_leaves_onW hfr D.fr hfl fun h5 f5 u5=>k _ ?_
 have I5:Ap X pins σ H' { s' with heap:=h5 }:=I.call' (s':={ s' with heap:=h5 }) (ch:=[]) F.os (F.un5 f5.1 u5) (F.hok5 f5.1) F.bare fun b hb=>absurd hb (by simp)
 refine ⟨I5.os,I5.bare,?_,I5.hok,Rl D I F.fresh,F.free,f5,F.trk5 f5.1,fun b o e n hb=>?_,fun b o e hb=>?_⟩
 ·have u:=I5.base
  rw [D.ex] at u
  exact u
 ·exact F.old b o (I.base.keep b o e n hb (hex b)) (I.base.free b o e n (hex b)) (Ln I e hb)
 ·obtain ⟨o1,e1⟩:=I.base.there b o e (hex b)
  exact F.any b o1 e1 (Ln I e hb)
theorem Xv {h':Heap}{e:Addr}{cls:Value}{vs:List Value}(D:Rt X)(I:Ap X pins σ H s)(hx:Heap.MadeExcOf s.heap h' e cls vs)
  (k:∀s'' B a0,We X.prog X.w X.outer X.H₀ X.s₀ H e cls B a0 s''→Q () s''):wpAny M X.A (leaving X.env (.ref e)) Q E { s with heap:=h' }:=by
 have hfr:X.A.frames=some (X.env::X.outer):=by rw [I.ok.frames,D.stk]
 have hex:∀b:Addr,b∉X.ex:=fun b=>by rw [D.ex];simp
 have hB:∀b o,s.heap.get? b=some o→b∉Ie X.stack→(PySem.W.hideAll s.heap (Ie X.stack)).get? b=some o:=fun b o q nm=>PySem.W.hideAll_get _ q nm
 have hl:s.heap.FunFrames (PySem.W.hideAll s.heap (Ie X.stack)) (X.env::X.outer):=by
  have z:=PySem.W.funFrames_hide (as:=Ie X.stack) I.stack fun env he b hb=>List.mem_filterMap.mpr ⟨env,he,hb⟩
  rw [D.stk] at z ⊢
  exact z
 have tn:∀b,H b≠none→b∉Ie X.stack:=fun b n z=>n (I.stkFree b z)
 refine wpAny_leaves_madeW (s:={ s with heap:=h' }) hfr D.fr (fun b o q=>PySem.W.of_hideAll _ q) hl hx fun h5 t f5 _ _ u5=>k _ (PySem.W.hideAll s.heap (Ie X.stack)) (.ref t) ?_
 have St:=f5.1
 have un5:Un (Ie X.stack) [] H H s.heap h5:=by
  have sl:∀b o,s.heap.get? b=some o→b∈Ie X.stack→∃sl,h5.get? b=some { o with slots:=sl }:=fun b o e hb=>by
   obtain ⟨_,o',e',nf⟩:=I.stack.mem hb
   rw [e] at e'
   cases e'
   exact u5 b o (hx.keeps b o e) nf
  refine ⟨fun b o e n hb _=>St b o (hB b o e hb),fun b o e n hb _=>sl b o e hb,fun _ _ _ n _=>n,fun b o e _=>?_,fun _ _ q=>q,fun _ _ _ q=>q,fun b ps q=>⟨#[],by rw [q];simp⟩⟩
  by_cases hb:b∈Ie X.stack
  ·obtain ⟨z,e1⟩:=sl b o e hb
   exact ⟨_,e1⟩
  ·exact ⟨o,St b o (hB b o e hb)⟩
 have hok5:G9 X.prog X.w H h5:=fun b u e=>by
  refine (I.hok b u e).stay (fun c v hc q=>St c v (hB c v q (tn c ?_))) (fun _ q=>q) fun _ _ q=>q
  rcases hc with z|z
  ·rw [z,e];simp
  ·rw [z];simp
 have I5:Ap X pins σ H { s with heap:=h5 }:=I.call' (s':={ s with heap:=h5 }) (ch:=[]) rfl un5 hok5 I.bare fun b hb=>absurd hb (by simp)
 refine ⟨I5.os,I5.bare,?_,hok5,Rl D I hx.new,?_,f5,fun b o n q=>?_,fun b o e n hb=>?_,fun b o e hb=>?_⟩
 ·have u:=I5.base
  rw [D.ex] at u
  exact u
 ·cases q:H e with
  |none=>rfl
  |some u=>
   obtain ⟨o,z⟩:=Mq (I.hok e u q)
   rw [hx.new] at z
   cases z
 ·cases z:H b with
  |none=>exact absurd z n
  |some u=>
   obtain ⟨o1,e1⟩:=Mq (I.hok b u z)
   have e2:=hB b o1 e1 (tn b n)
   have e3:=St b o1 e2
   have q':h5.get? b=some o:=q
   rw [q'] at e3
   cases e3
   exact e2
 ·exact hB b o (I.base.keep b o e n hb (hex b)) (Ln I e hb)
 ·obtain ⟨o1,e1⟩:=I.base.there b o e (hex b)
  exact ⟨o1,hB b o1 e1 (Ln I e hb)⟩
end
def F9 (P:Program)(w:World):Xm:=fun outer H s E e s'=>∃a cls H' B a0,e=.ref a∧We P w outer H s H' a cls B a0 s'∧E cls none H'
theorem Ais {P:Program}{w:World}{outer:List Env}{H:Hp}{s s':Shared}{e:Value}(h:F9 P w outer H s (fun _ _ _=>False) e s'):False:=by
 obtain ⟨_,_,_,_,_,_,_,z⟩:=h
 exact z
theorem Qd {X:Cx}:F1 (F9 X.prog X.w) X E0:=fun _ _ _ _ _ _ _ h=>(Ais h).elim
section
variable {P:Program}{w:World}{K:PySem.W.Frag}{mg:Str→Option Value}{base:Heap}{N:List Str}{qual:Str}{scope:Scope}{f:Addr}{cd:Value}{A:Around}{outer:List Env}{s₀:Shared}{H₀:Hp}{E:XK}
theorem Air:F1 (F9 P w) (Dh (F9 P w) P w K mg base N qual scope f cd A outer s₀ H₀ E) E:=by
 intro pins σ H1 s1 e s' I h
 obtain ⟨a,cls,H',B,a0,rfl,F,q⟩:=h
 exact Afw (X:=Dh (F9 P w) P w K mg base N qual scope f cd A outer s₀ H₀ E) ⟨rfl,rfl,rfl⟩ I F fun s'' F'=>⟨a,cls,H',B,a0,rfl,F',q⟩
theorem Aej {pins:List (Addr×Obj)}{σ:L2.St}{H:Hp}{s:Shared}{h':Heap}{e:Addr}{cls:Value}{vs:List Value}(I:Ap (Dh (F9 P w) P w K mg base N qual scope f cd A outer s₀ H₀ E) pins σ H s)(hx:Heap.MadeExcOf s.heap h' e cls vs)(q:E cls none H) :
  (Dh (F9 P w) P w K mg base N qual scope f cd A outer s₀ H₀ E).xe (.ref e) { s with heap:=h' } :=
 Xv (X:=Dh (F9 P w) P w K mg base N qual scope f cd A outer s₀ H₀ E) ⟨rfl,rfl,rfl⟩ I hx fun s'' B a0 F'=>⟨e,cls,H,B,a0,rfl,F',q⟩
end
end Lw
end
section
namespace Lw
open PySem PySem.Spec PyProof.Rows L2
def Br (b:Bool)(A B:Prop):Prop:=(b=true→A)∧(b=false→B)
theorem N9 (b:Bool)(A B:Prop):Br b A B=(if b=true then A else B):=by
 unfold Br
 cases b<;>simp
def Ag2 (i:Nat):TE:=fun σ H Q=>match σ[i]? with
 |some (some v)=>Q v H
 |_=>False
theorem Acy (i:Nat):Ag2 i=Afi i:=by
 funext σ H Q
 apply propext
 unfold Ag2 Afi
 cases h:σ[i]? with
 |none=>simp
 |some o=>cases o<;>simp
def dI (C:Int→Int→Prop)(g:Int→Int→V):R2:=fun x y H Q=>match x,y with
 |.int i,.int j=>C i j∧Q (g i j) H
 |_,_=>False
def dI0 (g:Int→Int→V):R2:=fun x y H Q=>match x,y with
 |.int i,.int j=>Q (g i j) H
 |_,_=>False
def dU (g:Int→V):V→Hp→VK→Prop:=fun x H Q=>match x with
 |.int i=>Q (g i) H
 |_=>False
def Kr (t:TE):TT:=fun σ H Q=>t σ H fun x H'=>match x with
 |.bl k=>Q k H'
 |_=>False
theorem Ms (t:TE):Kr t=Vp t:=by
 funext σ H Q
 unfold Kr Vp
 congr 1
 funext x H'
 apply propext
 cases x<;>simp
theorem Ka (t:TE):Kr t=tB t:=Ms t
def Aev (t u:TT):TT:=fun σ H Q=>t σ H fun c H1=>Br c (u σ H1 Q) (Q false H1)
def dOr (t u:TT):TT:=fun σ H Q=>t σ H fun c H1=>Br c (Q true H1) (u σ H1 Q)
theorem Aa3 (t u:TT):Aev t u=Adx t u:=by
 funext σ H Q
 unfold Aev Adx
 simp only [N9]
theorem Agf (t u:TT):dOr t u=tOr t u:=by
 funext σ H Q
 unfold dOr tOr
 simp only [N9]
def Xz (ta tb:TE):TE:=fun σ H Q=>ta σ H fun x H1=>match x with
 |.bl c=>Br c (tb σ H1 Q) (Q (.bl false) H1)
 |_=>False
def Z6 (ta:TE):TE:=fun σ H Q=>ta σ H fun x H1=>match x with
 |.bl c=>Q (.bl (!c)) H1
 |_=>False
theorem Aas (t u:TE):Xz t u=Y0 t u:=by
 funext σ H Q
 unfold Xz Y0
 congr 1
 funext x H'
 apply propext
 cases x<;>simp [N9]
theorem Zk (t:TE):Z6 t=Yw t:=by
 funext σ H Q
 unfold Z6 Yw
 congr 1
 funext x H'
 apply propext
 cases x<;>simp
def Ae3 (c:TT)(t u:TS):TS:=fun D σ H=>c σ H fun b H1=>Br b (t D σ H1) (u D σ H1)
theorem Aco (c:TT)(t u:TS):Ae3 c t u=Afk c t u:=by
 funext D σ H
 unfold Ae3 Afk
 simp only [N9]
def dIf (t:TT)(ta tb:TE):TE:=fun σ H Q=>t σ H fun c H1=>Br c (ta σ H1 Q) (tb σ H1 Q)
theorem Aga (c:TT)(t u:TE):dIf c t u=tIf c t u:=by
 funext D σ H
 unfold dIf tIf
 simp only [N9]
section
variable {X:Cx}{a b c:Expr}{ta tb tc:TE}{pos:Pos}{tA tB':TT}{Ef:List Expr}
theorem dv (i:Nat){x:Str}{pos:Pos}(hN:X.N[i]? =some x:=by rfl)(hv:Vis X.env.scope x:=by first|exact Or.inl rfl|exact Or.inr (Or.inl rfl)|exact Or.inr (Or.inr rfl))(hd:(x==("__debug__":Str))=false:=by decide)
  (hcd:(x==("__classdict__":Str))=false:=by decide):PE X (.Name x pos) (Ag2 i):=by
 rw [Acy]
 exact Aes hN hv hd hcd
theorem opD {f:Value→Value→Sem Value}{C:Int→Int→Prop}{g:Int→Int→V}(h:C6 X f (rI C g)):C6 X f (dI C g):=by
 intro pins s σ H x y v u Q I rx ry q
 cases x<;>cases y<;>first
  |exact False.elim q
  |exact h _ _ _ _ _ _ _ _ _ I rx ry ⟨_,_,rfl,rfl,q.1,q.2⟩
theorem Y7 {f:Value→Value→Sem Value}{g:Int→Int→V}(h:C6 X f (rI0 g)):C6 X f (dI0 g):=by
 intro pins s σ H x y v u Q I rx ry q
 cases x<;>cases y<;>first
  |exact False.elim q
  |exact h _ _ _ _ _ _ _ _ _ I rx ry ⟨_,_,rfl,rfl,q⟩
theorem unD {f:Value→Sem Value}{g:Int→V}(h:UnR X f (rU g)):UnR X f (dU g):=by
 intro pins s σ H x v Q I rx q
 cases x<;>first
  |exact False.elim q
  |exact h _ _ _ _ _ _ _ I rx ⟨_,rfl,q⟩
def Bd (n:Nat)(x:Int):Prop:=x.natAbs<2 ^ n
theorem Bd.bits {n:Nat}{x:Int}(h:Bd n x):Builtin.Int.intBits x≤n:=intBits_le_iff.mpr h
def COk (i j:Int):Prop:=(Bd 4000 i∧Bd 4000 j)∨Aep i j
theorem COk.ok {i j:Int}(h:COk i j):IntMulOk i j:=by
 rcases h with ⟨h1,h2⟩|h
 ·exact PySem.IntMulOk.of_bits (Nat.le_trans h1.bits (by decide)) (Nat.le_trans h2.bits (by decide))
 ·exact h.ok
theorem Vq {n:Nat}{x:Int}(h:Bd n x)(h0:0<n):x.natAbs.log2<n:=by
 by_cases z:x.natAbs=0
 ·rw [z]
  simpa using h0
 ·exact (Nat.log2_lt z).mpr h
theorem Cl:C6 X (binaryOp .Add) (dI0 fun i j=>.int (i+j)):=Y7 Ad2
theorem M7:C6 X (binaryOp .Sub) (dI0 fun i j=>.int (i-j)):=Y7 Aer
theorem Cw:C6 X (binaryOp .Mult) (dI COk fun i j=>.int (i*j)):=opD (opI fun _ _ _ _ _ _ _ hc q=>mul_int q hc.ok)
theorem Dk:C6 X (binaryOp .FloorDiv) (dI (fun _ j=>0<j∧Bd 4000 j) fun i j=>.int (i / j)):=opD (opI fun i j _ _ _ _ _ hc q=>by
 have h1:(0:Int)<j:=hc.1
 exact floordiv_int (by omega) (by rw [Int.fdiv_eq_ediv_of_nonneg i (by omega)];exact q) (.inl (PyProof.noPylong_of_log2 (Nat.lt_trans (Vq hc.2 (by decide)) (by decide)))))
theorem Zg:C6 X (binaryOp .FloorDiv) (dI (fun _ j=>j≠0∧Bd 4000 j) fun i j=>.int (i.fdiv j)):=opD (opI fun i j _ _ _ _ _ hc q=>by
 exact floordiv_int hc.1 q (.inl (PyProof.noPylong_of_log2 (Nat.lt_trans (Vq hc.2 (by decide)) (by decide)))))
theorem Bm:C6 X (binaryOp .Mod) (dI (fun _ j=>0<j) fun i j=>.int (i % j)):=opD Af3
theorem Agk:C6 X (binaryOp .Mod) (dI (fun _ j=>j≠0) fun i j=>.int (i.fmod j)):=opD Aca
theorem X1:C6 X (binaryOp .Pow) (dI Ahs fun i j=>.int (i ^ j.toNat)):=opD Agn
theorem Z3:C6 X (compareOp .Lt) (dI0 fun i j=>.bl (decide (i<j))):=Y7 Ahg
theorem Abb:C6 X (compareOp .LtE) (dI0 fun i j=>.bl (decide (i≤j))):=Y7 Ah4
theorem Abv:C6 X (compareOp .Gt) (dI0 fun i j=>.bl (decide (j<i))):=Y7 Ah9
theorem Vr:UnR X (unaryOp .USub) (dU fun i=>.int (-i)):=unD Afn
def dEq:R2:=fun x y H Q=>match x,y with
 |.int i,.int j=>Q (.bl (decide (i=j))) H
 |.bl i,.bl j=>Q (.bl (i==j)) H
 |.str i,.str j=>Q (.bl (decide (i=j))) H
 |_,_=>False
def dNe:R2:=fun x y H Q=>match x,y with
 |.int i,.int j=>Q (.bl (!decide (i=j))) H
 |.bl i,.bl j=>Q (.bl (i != j)) H
 |.str i,.str j=>Q (.bl (!decide (i=j))) H
 |_,_=>False
theorem G4:C6 X (compareOp .Eq) dEq:=by
 intro pins s σ H x y v u Q I rx ry q
 cases x<;>cases y<;>first
  |exact False.elim q
  | (refine Aix _ _ _ _ _ _ _ _ _ I rx ry ⟨rfl,?_⟩
     have e:∀(i j:Int),decide (V.int i=V.int j)=decide (i=j):=fun i j=>by simp
     have e2:∀(i j:Str),decide (V.str i=V.str j)=decide (i=j):=fun i j=>by simp
     first
       |(rw [e];exact q)
       |(rw [e2];exact q)
       |(rw [Qf];exact q))
theorem Aka:C6 X (compareOp .NotEq) dNe:=by
 intro pins s σ H x y v u Q I rx ry q
 cases x<;>cases y<;>first
  |exact False.elim q
  | (refine Aiz _ _ _ _ _ _ _ _ _ I rx ry ⟨rfl,?_⟩
     have e:∀(i j:Int),decide (V.int i=V.int j)=decide (i=j):=fun i j=>by simp
     have e2:∀(i j:Str),decide (V.str i=V.str j)=decide (i=j):=fun i j=>by simp
     first
       |(rw [e];exact q)
       |(rw [e2];exact q)
       |(rw [Qf];exact q))
theorem Bw {op:CmpOp}{r:R2}(ho:C6 X (compareOp op) r)(ha:PE X a ta)(hb:PE X b tb)(hm:behindInMarks op b=false):PT X (.Compare a [op] [b] pos) (Kr (tOp r ta tb)):=by
 rw [Ms]
 exact Aa5 ho ha hb hm
theorem Fk {e:Expr}{t:TE}(h:PE X e t)(he:∀whole,isTrue e X.env whole=(do let v ←whole;standAt e.pos;holding [v] (truthy v)):=by intro _;rfl):PT X e (Kr t):=by
 rw [Ka]
 exact Aeq h he
theorem Aih (ha:PT X a tA)(hb:PW X (.BoolOp .And (b::Ef) pos) tB'):PW X (.BoolOp .And (a::b::Ef) pos) (Aev tA tB'):=by
 rw [Aa3]
 exact Af1 ha hb
theorem Wg (ha:PT X a tA)(hb:PW X (.BoolOp .Or (b::Ef) pos) tB'):PW X (.BoolOp .Or (a::b::Ef) pos) (dOr tA tB'):=by
 rw [Agf]
 exact Aib ha hb
theorem Kx (ha:PE X a ta)(hb:PE X (.BoolOp .And (b::Ef) pos) tb):PE X (.BoolOp .And (a::b::Ef) pos) (Xz ta tb):=by
 rw [Aas]
 exact Agv ha hb
theorem Adi (ha:PE X a ta):PE X (.UnaryOp .Not a pos) (Z6 ta):=by
 rw [Zk]
 exact Afa ha
theorem Akc {c:Expr}(hc:PT X c tA)(ha:PE X a ta)(hb:PE X b tb):PE X (.IfExp c a b pos) (dIf tA ta tb):=by
 rw [Aga]
 exact Z9 hc ha hb
theorem Ct {c:Expr}{a b:List Stmt}{tc:TT}{t u:TS}(hc:PT X c tc)(ha:Ko X a t)(hb:Ko X b u):PS X (.If c a b pos) (Ae3 tc t u):=by
 rw [Aco]
 exact Ai6 hc ha hb
def Ake (R:L2.St→Hp→Prop)(t u:TS):TS:=fun D σ H=>t { D with nx:=R } σ H∧∀σ' H',R σ' H'→u D σ' H'
theorem Ad3 (R:L2.St→Hp→Prop){st:Stmt}{r:List Stmt}{t u:TS}(h1:PS X st t)(h2:Ko X r u):Ko X (st::r) (Ake R t u):=by
 intro pins s σ H D I h
 refine wpAny_execs_cons (Ba (h1 pins s σ H { D with nx:=R } I h.1) fun f s1 q=>?_)
 cases f with
 |next=>
  obtain ⟨σ',H',I',q⟩:=q
  exact h2 pins s1 σ' H' D I' (h.2 σ' H' q)
 |ret v=>exact q
 |brk=>exact q
 |cont=>exact q
structure Bf (P:Program)(w:World)(K:PySem.W.Frag)(mg:Str→Option Value)(base:Heap)(x:Str)(ps:List Str)(k:Nat)(sp:Sp):Prop where
 ex:∃(f:Addr) (fd:FuncData),mg x=some (.ref f)∧PySem.W.keepIn K (.ref f)=true∧Fc K fd ps []∧Gv P w K mg base (F9 P w) k f fd ps sp ∧
  ∃(oc:Value) (od:Option Addr) (osl:Array (Option Value)),K.lookup f=some ⟨oc,od,.func fd,osl⟩
def Zv (sp:Sp)(t:TA):TE:=fun σ H Q=>t σ H fun vs H1=>sp vs H1 Q E0
theorem Aaa (sp:Sp)(t:TA):Zv sp t=R7 sp [] E0 t:=by
 funext σ H Q
 unfold Zv R7
 simp only [List.append_nil]
theorem An {x:Str}{ps:List Str}{k k':Nat}{sp:Sp}{p:Pos}{e:Expr}{es:List Expr}{t:TA}(C:Bf X.prog X.w X.K X.mg X.base x ps k sp)(hr:Bu k' X.A)(hk:k≤k')(hg:Gl X x)
  (ha:PA X (e::es) t) (hdb:(x==("__debug__":Str))=false:=by decide) (he:starEach (e::es) X.env=(false,eval e X.env)::starEach es X.env:=by rfl) (hpl:(backTo pos (starEach es X.env)).any (·.1)=false:=by rfl) :
  PE X (.Call (.Name x p) (e::es) [] pos) (Zv sp t):=by
 obtain ⟨f,fd,h1,h2,h3,h4,_⟩:=C.ex
 rw [Aaa]
 exact U8 (h4.mono hk) hr hg h1 h2 h3 .nil Qd ha hdb he hpl
def I0 (xs:List V):Bool:=Nat.ble xs.length 1000
theorem R6 {xs:List V}(h:I0 xs=true):xs.length≤sizeLine:=Nat.le_trans (Nat.le_of_ble_eq_true h) (by decide)
def Ajx (t:TA):TE:=fun σ H Q=>t σ H fun xs H1=>match I0 xs with
 |true=>∀p H',Ai H1 H'→H' p=some (.tup xs)→Q (.ref p) H'
 |false=>False
def Aku (t:TA):TE:=fun σ H Q=>t σ H fun xs H1=>match I0 xs with
 |true=>∀p H',Ai H1 H'→H' p=some (.lst xs)→Q (.ref p) H'
 |false=>False
theorem Al {H:Hp}{p:Addr}{o:HO}(h:H p=none):Ai H (upd H p o):=fun b u e=>by
 rw [Ak (A9 e h)]
 exact e
theorem Cj {es:List Expr}{t:TA}{x1}(h:PA X es t):PE X (.Tuple es x1 pos) (Ajx t):=by
 intro pins s σ H Q I hq
 refine wpAny_Tuple_spliced (Ba (h pos pins s σ H _ I hq) fun us s1 ⟨xs,H1,I1,r,q⟩=>?_)
 cases hl:I0 xs with
 |false=>
  have q':(match I0 xs with|true=>_|false=>False:Prop):=q
  rw [hl] at q'
  exact q'.elim
 |true=>
  have z:=R6 hl
  have q':(match I0 xs with|true=>∀p H',Ai H1 H'→H' p=some (.tup xs)→Q (.ref p) H'|false=>False:Prop):=q
  rw [hl] at q'
  refine ⟨by rw [←r.length];exact z,?_⟩
  have hf:H1 s1.heap.objs.size=none:=I1.hok.fresh (Nat.le_refl _)
  refine ⟨.ref s1.heap.objs.size,upd H1 s1.heap.objs.size (.tup xs),I1.laid (t':=s1.toks) (fun b u e=>Heap.get?_push_of_some _ e) (Nat.le_refl _) ?_,rfl,q' _ _ (Al hf) Ad⟩
  exact ⟨z,us,r,⟨_,Heap.get?_push_size _ rfl,rfl,_,rfl⟩⟩
theorem F5 {es:List Expr}{t:TA}(h:PA X es t):PE X (.List es pos) (Aku t):=by
 intro pins s σ H Q I hq
 refine wpAny_List_spliced (Ba (h pos pins s σ H _ I hq) fun us s1 ⟨xs,H1,I1,r,q⟩=>?_)
 cases hl:I0 xs with
 |false=>
  have q':(match I0 xs with|true=>_|false=>False:Prop):=q
  rw [hl] at q'
  exact q'.elim
 |true=>
  have z:=R6 hl
  have q':(match I0 xs with|true=>∀p H',Ai H1 H'→H' p=some (.lst xs)→Q (.ref p) H'|false=>False:Prop):=q
  rw [hl] at q'
  refine ⟨by rw [←r.length];exact z,?_⟩
  have hf:H1 s1.heap.objs.size=none:=I1.hok.fresh (Nat.le_refl _)
  refine ⟨.ref s1.heap.objs.size,upd H1 s1.heap.objs.size (.lst xs),I1.laid (t':=s1.toks) (fun b u e=>Heap.get?_push_of_some _ e) (Nat.le_refl _) ?_,rfl,q' _ _ (Al hf) Ad⟩
  exact ⟨z,us,0,r,Heap.get?_push_size _ rfl⟩
def Ags (xs:List V):Int→Option V
 |.ofNat n=>xs[n]?
 |.negSucc _=>none
theorem Ac5 {xs:List V}{i:Int}{v:V}(h:Ags xs i=some v):Qt xs i=some v:=by
 cases i with
 |ofNat n=>exact Cn h
 |negSucc n=>cases h
def Aj8:R2:=fun x y H Q=>match x,y with
 |.ref p,.int i=>∃xs,H p=some (.tup xs)∧match Ags xs i with
  |some v=>Q v H
  |none=>False
 |_,_=>False
def Ai8 (K:PySem.W.Frag):R2:=fun x y H Q=>match x,y with
 |.ref p,.int i=>∃xs v,A0 K H p xs∧Qt xs i=some v∧Q v H
 |_,_=>False
theorem Au:IxR X Aj8:=by
 intro value slice pins s σ H x y v u Q I rx ry h hs
 cases x<;>cases y<;>first
  |exact False.elim h
  | (obtain ⟨xs,e,q⟩:=h
     cases z:Ags xs _ with
     | none=>
       rw [z] at q
       exact q.elim
     | some w=>
       rw [z] at q
       exact Aec value slice pins s σ H _ _ v u Q I rx ry ⟨_,xs,_,w,rfl,rfl,Ed.of e,Ac5 z,q⟩ hs)
theorem Cc:IxR X (Ai8 X.K):=by
 intro value slice pins s σ H x y v u Q I rx ry h hs
 cases x<;>cases y<;>first
  |exact False.elim h
  | (obtain ⟨xs,w,e,z,q⟩:=h
     exact Ab8 value slice pins s σ H _ _ v u Q I rx ry ⟨_,xs,_,w,rfl,rfl,e,z,q⟩ hs)
theorem W3 (T:String){x:Str}(hg:Gl X x)(hm:X.mg x=none)(hv:bootBuiltins x=some (.type T))(hn:x≠"__name__":=by decide)(hd:(x==("__debug__":Str))=false:=by decide):PE X (.Name x pos) (tC (.ty T)):=
 Aa2 hg hm hv rfl hn hd
def Aj9:List V→Hp→VK→Prop:=fun xs H Q=>match xs with
 |[.int i]=>Q (.int (i.natAbs:Int)) H
 |_=>False
theorem Ahw:B6 X (.builtin "abs") Aj9:=by
 intro pins s σ H xs us Q I r h
 match xs,h with
 |[.int i],h=>
  have e:(if i<0 then -i else i)=(i.natAbs:Int):=by split<;>omega
  exact Aac pins s σ H _ us Q I r ⟨i,rfl,by rw [e];exact h⟩
def Aj3 (K:PySem.W.Frag):List V→Hp→VK→Prop:=fun xs H Q=>match xs with
 |[.ref p]=>∃ys,(A0 K H p ys∨Ed K H p ys)∧Q (.int ys.length) H
 |[.str z]=>z.length≤sizeLine∧Q (.int z.length) H
 |_=>False
theorem Cm:B6 X (.builtin "len") (Aj3 X.K):=by
 intro pins s σ H xs us Q I r h
 match xs,h with
 |[.ref p],⟨ys,h1,q⟩=>exact O3 pins s σ H _ us Q I r ⟨p,ys,rfl,h1,q⟩
 |[.str z],⟨h1,q⟩=>exact Qj pins s σ H _ us Q I r ⟨z,rfl,h1,q⟩
def Ym (t c:String):Option Bool:=
 if t=c then some true else if t="bool"∧c="int" then some true
 else if (t="int"∨t="bool"∨t="str"∨t="tuple"∨t="list"∨t="dict"∨t="NoneType")∧(c="int"∨c="bool"∨c="str"∨c="tuple"∨c="list") then some false else none
def Acv:HO→Option String
 |.lst _=>some "list"
 |.frz _ (.lst _)=>some "list"
 |.tup _=>some "tuple"
 |.dK _=>some "dict"
 |.dT _=>some "dict"
 |_=>none
def Aj6:List V→Hp→VK→Prop:=fun xs H Q=>match xs with
 |[.non,.ty c]=>∃b,Ym "NoneType" c=some b∧Q (.bl b) H
 |[.bl _,.ty c]=>∃b,Ym "bool" c=some b∧Q (.bl b) H
 |[.int _,.ty c]=>∃b,Ym "int" c=some b∧Q (.bl b) H
 |[.str _,.ty c]=>∃b,Ym "str" c=some b∧Q (.bl b) H
 |[.ref p,.ty c]=>∃u b t,H p=some u∧Acv u=some t∧Ym t c=some b∧Q (.bl b) H
 |_=>False
theorem Ji (K:PySem.W.Frag){t c:String}{b:Bool}(h:Ym t c=some b):PySem.W.kitOne K (.type t) (.type c)=some b:=by
 unfold Ym at h
 split at h
 ·rename_i e
  subst e
  cases h
  unfold PySem.W.kitOne
  rw [if_pos (by simp)]
 ·split at h
  ·rename_i e
   obtain ⟨rfl,rfl⟩:=e
   cases h
   kernel_rfl
  ·split at h
   ·rename_i e1 e2 e
    cases h
    obtain ⟨ht,hc⟩:=e
    rcases ht with rfl|rfl|rfl|rfl|rfl|rfl|rfl<;>rcases hc with rfl|rfl|rfl|rfl|rfl<;>first
     |exact absurd rfl e1
     |exact absurd ⟨rfl,rfl⟩ e2
     |kernel_rfl
   ·cases h
theorem R5:B6 X (.builtin "isinstance") Aj6:=by
 intro pins s σ H xs us Q I r h
 match xs,h with
 |[.non,.ty c],⟨b,e,q⟩=>
  obtain ⟨u,w',rfl,r1,r2⟩:=Fi r
  cases (show w'=Value.type c from r2)
  exact Fh I r1 .non (Ji X.K e) fun tk=>⟨.bl b,H,I.tok _,rfl,q⟩
 |[.bl y,.ty c],⟨b,e,q⟩=>
  obtain ⟨u,w',rfl,r1,r2⟩:=Fi r
  cases (show w'=Value.type c from r2)
  exact Fh I r1 (.bl y) (Ji X.K e) fun tk=>⟨.bl b,H,I.tok _,rfl,q⟩
 |[.int y,.ty c],⟨b,e,q⟩=>
  obtain ⟨u,w',rfl,r1,r2⟩:=Fi r
  cases (show w'=Value.type c from r2)
  exact Fh I r1 (.int y) (Ji X.K e) fun tk=>⟨.bl b,H,I.tok _,rfl,q⟩
 |[.str y,.ty c],⟨b,e,q⟩=>
  obtain ⟨u,w',rfl,r1,r2⟩:=Fi r
  cases (show w'=Value.type c from r2)
  exact Fh I r1 (.str y) (Ji X.K e) fun tk=>⟨.bl b,H,I.tok _,rfl,q⟩
 | [.ref p,.ty c],⟨o,b,t,e1,e2,e,q⟩=>
  obtain ⟨u,w',rfl,r1,r2⟩:=Fi r
  cases (show w'=Value.type c from r2)
  have ty:Ke X.K H (.ref p) (.type t):=by
   cases o with
   |lst ys=>cases e2;exact .lst e1
   |tup ys=>cases e2;exact .tup e1
   |dK ys=>cases e2;exact .dK e1
   |dT ys=>cases e2;exact .dT e1
   |frz ob u=>
    cases u with
    |lst ys=>cases e2;exact .frz e1
    |_=>cases e2
   |_=>cases e2
  exact Fh I r1 ty (Ji X.K e) fun tk=>⟨.bl b,H,I.tok _,rfl,q⟩
end
section
variable {X:Cx}{pos:Pos}
def Ae9 (c:TT)(tb:TS):TS:=fun D σ H=>∃W:Nat→L2.St→Hp→Prop,(∃m,W m σ H)∧∀m σ H,W m σ H →
 c σ H fun b H1=>Br b (tb { D with nx:=fun σ' H'=>∃m',m'<m∧W m' σ' H',ct:=fun σ' H'=>∃m',m'<m∧W m' σ' H',bk:=D.nx } σ H1) (D.nx σ H1)
theorem Aci {c:Expr}{body:List Stmt}{tc:TT}{tb:TS}(hp:PassesOwn (model X.prog X.w) X.A X.env X.xe)(hc:PT X c tc)(hb:Ko X body tb):PS X (.While c body [] pos) (Ae9 tc tb):=by
 intro pins s σ H D I h
 obtain ⟨W,⟨m0,w0⟩,turn⟩:=h
 refine wpAny_While (codeAny_whileLoop (fun n s'=>∃σ' H',Ap X pins σ' H' s'∧W n σ' H') ?_ m0 ⟨σ,H,I,w0⟩)
 rintro n s1 ⟨σ1,H1,I1,w1⟩
 refine wpAny_passesOwn hp (Ba (hc pins s1 σ1 H1 _ I1 (turn n σ1 H1 w1)) fun b s2 ⟨H2,I2,q2⟩=>?_)
 cases b with
 | true=>
  have q2:=q2.1 rfl
  rw [if_pos rfl]
  refine wpAny_passesOwn hp (Ba (hb pins s2 σ1 H2 _ I2 q2) fun f s3 q3=>?_)
  cases f with
  |next=>
   obtain ⟨σ3,H3,I3,m',hm,w3⟩:=q3
   exact ⟨m',hm,σ3,H3,I3,w3⟩
  |cont=>
   obtain ⟨σ3,H3,I3,m',hm,w3⟩:=q3
   exact ⟨m',hm,σ3,H3,I3,w3⟩
  |brk=>exact q3
  |ret v=>exact q3
 |false=>
  rw [if_neg Bool.false_ne_true]
  exact wpAny_execs_nil ⟨σ1,H2,I2,q2.2 rfl⟩
end
structure B0 (K:PySem.W.Frag)(mg:Str→Option Value)(x:Str)(st:Stmt)(ps:List Str):Prop where
 ex:∃(f:Addr) (fd:FuncData),Fun K x x st f fd∧mg x=some (.ref f)∧Fc K fd ps []
section
variable {P:Program}{w:World}{K:PySem.W.Frag}{mg:Str→Option Value}{base:Heap}
theorem B0.calX {x:Str}{st:Stmt}{N ps:List Str}{k:Nat}{sp:Sp}(d:B0 K mg x st ps)(S:Ao N ps (Ag st))(len:∀vs H Q E,sp vs H Q E→vs.length=ps.length)
  (hbody:∀(f:Addr) (cdv:Value) (A:Around) (outer:List Env) (s:Shared) (H:Hp) (vs:List V) (Q:VK) (E:XK),Bu k (A.deeper (envOfC x (Ag st) s.heap.objs.size f cdv))→sp vs H Q E →
   ∃t,Ko (Dh (F9 P w) P w K mg base N x (Ag st) f cdv A outer s H E) (Bp st) t∧t { nx:=fun _ H'=>Q .non H',rt:=Q } (F7 N vs) H):Bf P w K mg base x ps (k+1) sp:=by
 obtain ⟨f,fd,F,hm,hb⟩:=d.ex
 obtain ⟨oc,od,kV,doc,pm,an,cdv,ct,osl,rfl,lk,hcd⟩:=F.ex
 exact ⟨f,_,hm,F.kp,hb,X6 lk hcd S len fun A outer s H vs Q E hr hsp=>hbody f cdv A outer s H vs Q E hr hsp,oc,od,osl,lk⟩
theorem B0.cal {x:Str}{st:Stmt}{N ps:List Str}{k:Nat}{sp:Sp}(d:B0 K mg x st ps)(S:Ao N ps (Ag st))(len:∀vs H Q E,sp vs H Q E→vs.length=ps.length)
  (hbody:∀(f:Addr) (cdv:Value) (A:Around) (outer:List Env) (s:Shared) (H:Hp) (vs:List V) (Q:VK) (E:XK),Bu k (A.deeper (envOfC x (Ag st) s.heap.objs.size f cdv))→sp vs H Q E →
   ∃t,Ko (Dh (F9 P w) P w K mg base N x (Ag st) f cdv A outer s H E).nox (Bp st) t∧t { nx:=fun _ H'=>Q .non H',rt:=Q } (F7 N vs) H):Bf P w K mg base x ps (k+1) sp:=
 d.calX S len fun f cdv A outer s H vs Q E hr hsp=>by
  obtain ⟨t,h,q⟩:=hbody f cdv A outer s H vs Q E hr hsp
  exact ⟨t,h.nox,q⟩
end
theorem Afv {K:PySem.W.Frag}{H H':Hp}{a:Addr}{xs:List V}(e:Ai H H')(h:Ed K H a xs):Ed K H' a xs:=by
 rcases h with (h|⟨o,h⟩)|h
 ·exact .inl (.inl (e _ _ h))
 ·exact .inl (.inr ⟨o,e _ _ h⟩)
 ·exact .inr h
mutual
inductive Rp (K:PySem.W.Frag)(H:Hp):V→PyData→Prop where
 |non:Rp K H .non .none
 |bl (b:Bool):Rp K H (.bl b) (.bool b)
 |int (i:Int):Rp K H (.int i) (.int i)
 |str (x:Str):Rp K H (.str x) (.str x)
 |tup {p:Addr} {xs:List V} {ds:List PyData}:Ed K H p xs→Pb K H xs ds→Rp K H (.ref p) (.tuple ds)
 |lst {p:Addr} {xs:List V} {ds:List PyData}:A0 K H p xs→Pb K H xs ds→Rp K H (.ref p) (.list ds)
inductive Pb (K:PySem.W.Frag)(H:Hp):List V→List PyData→Prop where
 |nil:Pb K H [] []
 |cons {v:V} {d:PyData} {vs:List V} {ds:List PyData}:Rp K H v d→Pb K H vs ds→Pb K H (v::vs) (d::ds)
end
mutual
theorem Rp.up {K:PySem.W.Frag}{H H':Hp}(s:Ai H H'):∀{v:V} {d:PyData},Rp K H v d→Rp K H' v d
 |_,_,.non=>.non
 |_,_,.bl b=>.bl b
 |_,_,.int i=>.int i
 |_,_,.str x=>.str x
 |_,_,.tup h r=>.tup (Afv s h) (Pb.up s r)
 |_,_,.lst h r=>.lst (s.seq h) (Pb.up s r)
theorem Pb.up {K:PySem.W.Frag}{H H':Hp}(s:Ai H H'):∀{v:List V} {d:List PyData},Pb K H v d→Pb K H' v d
 |_,_,.nil=>.nil
 |_,_,.cons h r=>.cons (Rp.up s h) (Pb.up s r)
end
section
variable {X:Cx}
mutual
theorem Rp.reads {pins:List (Addr×Obj)}{σ:L2.St}{H:Hp}{s:Shared}(I:Ap X pins σ H s):∀{v:V} {d:PyData} {u:Value},Rp X.K H v d→L2.RelV v u→∃as,Reads s.heap u d as
 |_,_,_,.non,r=>by cases r;exact ⟨_,Reads.none⟩
 |_,_,_,.bl b,r=>by cases r;exact ⟨_,Reads.bool b⟩
 |_,_,_,.int i,r=>by obtain ⟨t,rfl⟩:=r;exact ⟨_,Reads.int i t⟩
 |_,_,_,.str i,r=>by obtain ⟨t,rfl⟩:=r;exact ⟨_,Reads.str i t⟩
 |_,_,_,.tup h q,r=>by
  cases r
  obtain ⟨its,rv,⟨o,e,c,n,dd⟩,_⟩:=I.tuple h
  obtain ⟨as,ra⟩:=Pb.reads I q rv
  exact ⟨as,reads_tuple_at e c dd (by simpa using ra)⟩
 |_,_,_,.lst h q,r=>by
  cases r
  obtain ⟨its,rv,⟨o,n,e,c,_,dd⟩,_⟩:=I.list h
  obtain ⟨as,ra⟩:=Pb.reads I q rv
  exact ⟨_,reads_list_at e c dd (by simpa using ra)⟩
theorem Pb.reads {pins:List (Addr×Obj)}{σ:L2.St}{H:Hp}{s:Shared}(I:Ap X pins σ H s):∀{v:List V} {d:List PyData} {u:List Value},Pb X.K H v d→Az v u→∃as,ReadsAll s.heap u d as
 |_,_,_,.nil,r=>by cases r;exact ⟨_,ReadsAll.nil⟩
 | _,_,_,.cons h q,r=>by
  cases r with
  |cons r1 r2=>
   obtain ⟨as,ra⟩:=Rp.reads I h r1
   obtain ⟨bs,rb⟩:=Pb.reads I q r2
   exact ⟨_,ReadsAll.cons ra rb⟩
end
def Ak0 (K:PySem.W.Frag):R2:=fun x y H Q=>∃d e,Rp K H x d∧Rp K H y e∧SeqAt.shaped d=true∧SeqAt.shaped e=true∧Q (.bl (PyData.eqv d e)) H
def Aki (K:PySem.W.Frag):R2:=fun x y H Q=>∃d e,Rp K H x d∧Rp K H y e∧SeqAt.shaped d=true∧SeqAt.shaped e=true∧Q (.bl (!PyData.eqv d e)) H
theorem Iv (hu:X.A.units+64<cLine):C6 X (compareOp .Eq) (Ak0 X.K):=by
 intro pins s σ H x y v u Q I rx ry q
 obtain ⟨d,e,h1,h2,h3,h4,q⟩:=q
 obtain ⟨as,r1⟩:=h1.reads I rx
 obtain ⟨bs,r2⟩:=h2.reads I ry
 exact PyProof.Rows.eq_dataH r1 r2 h3 h4 hu ⟨.bl _,H,I,rfl,q⟩
theorem Adw (hu:X.A.units+64<cLine):C6 X (compareOp .NotEq) (Aki X.K):=by
 intro pins s σ H x y v u Q I rx ry q
 obtain ⟨d,e,h1,h2,h3,h4,q⟩:=q
 obtain ⟨as,r1⟩:=h1.reads I rx
 obtain ⟨bs,r2⟩:=h2.reads I ry
 exact PyProof.Rows.ne_dataH r1 r2 h3 h4 hu ⟨.bl _,H,I,rfl,q⟩
end
end Lw
end
section
set_option exponentiation.threshold 5000
namespace Lw
open PySem PySem.Spec PyProof.Rows L2
def cell (ns:List Int)(k:Int):Int:=if ns.length=0 then 0 else ns.getD (k % (ns.length:Int)).toNat 0
theorem Ax {n:Nat}{x:Int}(h:Nat.blt x.natAbs (2 ^ n)=true):Bd n x:=by
 unfold Bd
 exact Nat.lt_of_lt_of_le (Nat.lt_of_succ_le (Nat.le_of_ble_eq_true h)) (Nat.le_refl _)
theorem Bd.mono {m n:Nat}{x:Int}(h:Bd m x)(l:m≤n):Bd n x:=Nat.lt_of_lt_of_le h (Nat.pow_le_pow_right (by decide) l)
theorem Bd.mul {m n:Nat}{x y:Int}(h:Bd m x)(l:Bd n y):Bd (m+n) (x*y):=by
 unfold Bd at *
 rw [Int.natAbs_mul,Nat.pow_add]
 by_cases z:y.natAbs=0
 ·rw [z,Nat.mul_zero]
  exact Nat.mul_pos (Nat.pow_pos (by decide)) (Nat.pow_pos (by decide))
 ·exact Nat.lt_of_lt_of_le (Nat.mul_lt_mul_of_pos_right h (Nat.pos_of_ne_zero z)) (Nat.mul_le_mul_left _ (Nat.le_of_lt l))
theorem Bd.add {n:Nat}{x y:Int}(h:Bd n x)(l:Bd n y):Bd (n+1) (x+y):=by
 unfold Bd at *
 have:=Int.natAbs_add_le x y
 rw [Nat.pow_succ]
 omega
theorem Bd.sub {n:Nat}{x y:Int}(h:Bd n x)(l:Bd n y):Bd (n+1) (x-y):=by
 unfold Bd at *
 have:(x-y).natAbs≤x.natAbs+y.natAbs:=by omega
 rw [Nat.pow_succ]
 omega
theorem Bd.neg {n:Nat}{x:Int}(h:Bd n x):Bd n (-x):=by
 unfold Bd at *
 omega
theorem Bd.of_le {n:Nat}{x y:Int}(h:Bd n y)(l:x.natAbs≤y.natAbs):Bd n x:=Nat.lt_of_le_of_lt l h
theorem Dd {x b:Int}{n:Nat}(h1:-b≤x)(h2:x≤b)(h:Bd n b):Bd n x:=h.of_le (by omega)
def Rx (t b:Int):Int:=t / (Int.gcd t b:Int)
def Nn (t b:Int):Int:=b / (Int.gcd t b:Int)
theorem Re (t b:Int):Rx t b*(Int.gcd t b:Int)=t:=Int.ediv_mul_cancel (Int.gcd_dvd_left ..)
theorem Iq (t b:Int):Nn t b*(Int.gcd t b:Int)=b:=Int.ediv_mul_cancel (Int.gcd_dvd_right ..)
theorem F2 (x:Int)(g:Nat):(x / (g:Int)).natAbs≤x.natAbs:=Int.natAbs_ediv_le_natAbs x g
theorem Ab3 {n:Nat}{t b:Int}(h:Bd n t):Bd n (Rx t b):=h.of_le (F2 ..)
theorem Abq {n:Nat}{t b:Int}(h:Bd n b):Bd n (Nn t b):=h.of_le (F2 ..)
structure Fq (n:Nat)(H:Hp)(p:Addr)(a b:Int):Prop where
 at':H p=some (.tup [.int a,.int b])
 pos:0<b
 ba:Bd n a
 bb:Bd n b
theorem Fq.up {n:Nat}{H H':Hp}{p:Addr}{a b:Int}(s:Ai H H')(h:Fq n H p a b):Fq n H' p a b:=⟨s _ _ h.at',h.pos,h.ba,h.bb⟩
theorem Fq.mono {m n:Nat}{H:Hp}{p:Addr}{a b:Int}(h:Fq m H p a b)(l:m≤n):Fq n H p a b:=⟨h.at',h.pos,h.ba.mono l,h.bb.mono l⟩
abbrev Q2:=Int×Int
def ltQ (x y:Q2):Bool:=decide (x.1*y.2<y.1*x.2)
theorem Xl {m n:Nat}{i j:Int}(h:Bd m i)(h':Bd n j)(l:m≤4000)(l':n≤4000):COk i j:=.inl ⟨h.mono l,h'.mono l'⟩
structure Pq (n:Nat)(H:Hp)(r:Addr)(lo:Q2)(hi:Option Q2):Prop where
 ex:∃l x,H r=some (.tup [.ref l,x])∧Fq n H l lo.1 lo.2∧(hi=none∧x=.non∨∃q y,hi=some y∧x=.ref q∧Fq n H q y.1 y.2)
theorem Aal (a b:Int):Int.gcd b (a.fmod b)=Int.gcd a b:=by
 rw [Int.fmod_def,Int.gcd_sub_mul_left_right,Int.gcd_comm]
theorem Ach (a:Int){b:Int}(h:b≠0):(a.fmod b).natAbs<b.natAbs:=by
 have e0:=Int.emod_nonneg a h
 have e1:=Int.emod_lt a h
 rw [Int.fmod_eq_emod]
 by_cases c:0≤b∨b∣a
 ·rw [if_pos c]
  omega
 ·rw [if_neg c]
  have e2:a % b≠0:=fun z=>c (.inr (Int.dvd_of_emod_eq_zero z))
  have:¬0≤b:=fun z=>c (.inl z)
  omega
def Sw (t b:Int):Int:=if b<0 then -Rx t b else Rx t b
def Qs (t b:Int):Int:=if b<0 then -Nn t b else Nn t b
def dvs (t b:Int):Int:=if b<0 then -(Int.gcd t b:Int) else (Int.gcd t b:Int)
theorem Pn (t:Int){b:Int}(hb:b≠0):0<(Int.gcd t b:Int):=by
 have:0<Int.gcd t b:=Int.gcd_pos_of_ne_zero_right _ hb
 omega
theorem Afq (t:Int){b:Int}(hb:b≠0):dvs t b≠0:=by
 have:=Pn t hb
 unfold dvs
 split<;>omega
theorem Agd {n:Nat}(t:Int){b:Int}(hb:b≠0)(h:Bd n b):Bd n (dvs t b):=by
 have l:=Nat.le_of_dvd (by omega:0<b.natAbs) (show Int.gcd t b∣b.natAbs from Nat.gcd_dvd_right ..)
 refine h.of_le ?_
 unfold dvs
 split<;>omega
theorem Ae5 (t:Int){b:Int}(hb:b≠0):t.fdiv (dvs t b)=Sw t b:=by
 have g:=Pn t hb
 have h:=Re t b
 unfold dvs Sw
 split
 ·have e:t=(-Rx t b)*(-(Int.gcd t b:Int)):=by rw [Int.neg_mul_neg];exact h.symm
  exact (congrArg (fun z=>z.fdiv (-(Int.gcd t b:Int))) e).trans (Int.mul_fdiv_cancel _ (by omega))
 ·exact (congrArg (fun z=>z.fdiv (Int.gcd t b:Int)) h.symm).trans (Int.mul_fdiv_cancel _ (by omega))
theorem Ae4 (t:Int){b:Int}(hb:b≠0):b.fdiv (dvs t b)=Qs t b:=by
 have g:=Pn t hb
 have h:=Iq t b
 unfold dvs Qs
 split
 ·have e:b=(-Nn t b)*(-(Int.gcd t b:Int)):=by rw [Int.neg_mul_neg];exact h.symm
  exact (congrArg (fun z=>z.fdiv (-(Int.gcd t b:Int))) e).trans (Int.mul_fdiv_cancel _ (by omega))
 ·exact (congrArg (fun z=>z.fdiv (Int.gcd t b:Int)) h.symm).trans (Int.mul_fdiv_cancel _ (by omega))
theorem Le (t:Int){b:Int}(hb:b≠0):0<Qs t b:=by
 have g:=Pn t hb
 have h:=Iq t b
 unfold Qs
 split
 ·refine Int.lt_of_not_ge fun c=>?_
  have:=Int.mul_nonneg (show 0≤Nn t b by omega) (Int.le_of_lt g)
  omega
 ·refine Int.lt_of_not_ge fun c=>?_
  have:=Int.mul_nonpos_of_nonpos_of_nonneg c (Int.le_of_lt g)
  omega
theorem Pf {n:Nat}{t b:Int}(h:Bd n t):Bd n (Sw t b):=by
 have:=Ab3 (b:=b) h
 unfold Sw
 split
 ·exact this.neg
 ·exact this
theorem Pw {n:Nat}{t b:Int}(h:Bd n b):Bd n (Qs t b):=by
 have:=Abq (t:=t) h
 unfold Qs
 split
 ·exact this.neg
 ·exact this
structure Wd (H:Hp)(p:Addr)(t b:Int):Prop where
 at':H p=some (.tup [.int (Sw t b),.int (Qs t b)])
theorem Wd.fq {n:Nat}{H:Hp}{p:Addr}{t b:Int}(h:Wd H p t b)(hb:b≠0)(h1:Bd n t)(h2:Bd n b):Fq n H p (Sw t b) (Qs t b):=⟨h.at',Le t hb,Pf h1,Pw h2⟩
end Lw
end
section
namespace Lw
open PySem PySem.Spec PyProof.Rows L2
def Rq (kd:Bool)(h:Heap)(it l:Addr)(k:Nat):Prop:=match kd with
 |true=>h.IsListIter it l k
 |false=>h.IsTupleIter it l k
def Nl (kd:Bool)(h:Heap)(l:Addr)(xs:Array Value):Prop:=match kd with
 |true=>h.IsList l xs
 |false=>h.IsTuple l xs
def Wp (kd:Bool)(K:PySem.W.Frag)(H:Hp)(a:Addr)(xs:List V):Prop:=match kd with
 |true=>A0 K H a xs
 |false=>Ed K H a xs
theorem Rq.ob {kd:Bool}{h:Heap}{it l:Addr}{k:Nat}(x:Rq kd h it l k):∃o,h.get? it=some o∧∀v,o.data≠.cell v:=by
 cases kd with
 |true=>obtain ⟨o,e,_,d⟩:=x;exact ⟨o,e,fun v z=>by rw [d] at z;cases z⟩
 |false=>obtain ⟨o,e,_,d⟩:=x;exact ⟨o,e,fun v z=>by rw [d] at z;cases z⟩
theorem Rq.mv {kd:Bool}{h h':Heap}{it l:Addr}{k:Nat}(x:Rq kd h it l k)(q:∀o,h.get? it=some o→h'.get? it=some o):Rq kd h' it l k:=by
 cases kd with
 |true=>obtain ⟨o,e,r⟩:=x;exact ⟨o,q o e,r⟩
 |false=>obtain ⟨o,e,r⟩:=x;exact ⟨o,q o e,r⟩
theorem Nl.mv {kd:Bool}{h h':Heap}{l:Addr}{xs:Array Value}(x:Nl kd h l xs)(q:∀o,h.get? l=some o→h'.get? l=some o):Nl kd h' l xs:=by
 cases kd with
 |true=>obtain ⟨o,e,r⟩:=x;exact ⟨o,q o e,r⟩
 |false=>obtain ⟨o,e,r⟩:=x;exact ⟨o,q o e,r⟩
theorem Nl.lt {kd:Bool}{h:Heap}{l:Addr}{xs:Array Value}(x:Nl kd h l xs):l<h.objs.size:=by
 cases kd with
 |true=>obtain ⟨o,e,r⟩:=x;exact Heap.lt_size e
 |false=>obtain ⟨o,e,r⟩:=x;exact Heap.lt_size e
section
variable {prog:Program}{w:World}{A:Around}{E:Value→Shared→Prop}{s:Shared}
theorem Hi {kd:Bool}{it l:Addr}{k:Nat}{xs:Array Value}{x:Value}{Q:Value→Shared→Prop}(h1:Rq kd s.heap it l k)(h2:Nl kd s.heap l xs)(hx:xs[k]? =some x)
  (q:∀g,Rq kd g it l (k+1)→Heap.SameBut it s.heap g→Q x { s with heap:=g }):wpAny (model prog w) A (Builtin.SmallTypes.nextOf (.ref it)) Q E s:=by
 cases kd with
 |true=>exact wpAny_nextOf_list_item h1 h2 hx q
 |false=>
  have h1':s.heap.IsTupleIter it l k:=h1
  obtain ⟨io,e1,c1,d1⟩:=id h1'
  obtain ⟨lo,e2,_,m2,d2⟩:=(show s.heap.IsTuple l xs from h2)
  have ty:=h1'.typeIs
  unfold Builtin.SmallTypes.nextOf;refine wpAny_bind (wpAny_callSpecial?_slot (name:=Str.ofString "__next__") ty F.slot_tuple_iterator_next (wpAny_call_entry F.slot_tuple_iterator_next ty F.entry_tuple_iterator_next ?_ (F.args_tuple_iterator_next_1 _)))
  show wpAny _ _ (field (Value.ref it) 0 >>= _) _ _ _
  refine wpAny_bind (wpAny_field e1 d1 (x:=.ref l) rfl ?_)
  show wpAny _ _ (if (Value.ref l==Value.none)=true then _ else _) _ _ _
  rw [if_neg (show ¬(Value.ref l==Value.none)=true from Bool.false_ne_true)]
  show wpAny _ _ (field (Value.ref it) 1 >>= _) _ _ _
  refine wpAny_bind (wpAny_field e1 d1 (x:=.int k 0) rfl ?_)
  show wpAny _ _ (seqItems? (Value.ref l) >>= _) _ _ _
  refine wpAny_bind (wpAny_seqItems e2 d2 ?_)
  simp only [Int.toNat_natCast,hx]
  refine wpAny_bind (wpAny_setField e1 d1 (by simp) (wpAny_pure ⟨x,rfl,wpAny_pure (q _ ?_ (Heap.SameBut.update ..))⟩))
  refine ⟨_,Heap.get?_update_self _ e1 (Obj.isFreed_of_fields (Obj.data_mapFields d1 _)),(Obj.cls_mapFields ..).trans c1,?_⟩
  rw [Obj.data_mapFields d1]
  simp [rawInt]
theorem N5 {kd:Bool}{it l:Addr}{k:Nat}{xs:Array Value}{Q:Value→Shared→Prop}(hh:A.handled=none)(h1:Rq kd s.heap it l k)(h2:Nl kd s.heap l xs)(hx:xs[k]? =none)
  (q:∀g e,Heap.ExtBut it s.heap g→(∃o,g.get? e=some o∧o.cls=.type "StopIteration")→E (.ref e) { s with heap:=g }):wpAny (model prog w) A (Builtin.SmallTypes.nextOf (.ref it)) Q E s:=by
 cases kd with
 |true=>exact wpAny_nextOf_list_end hh h1 h2 hx q
 |false=>
  have h1':s.heap.IsTupleIter it l k:=h1
  obtain ⟨io,e1,c1,d1⟩:=id h1'
  obtain ⟨lo,e2,_,m2,d2⟩:=(show s.heap.IsTuple l xs from h2)
  have ty:=h1'.typeIs
  unfold Builtin.SmallTypes.nextOf;refine wpAny_bind (wpAny_callSpecial?_slot (name:=Str.ofString "__next__") ty F.slot_tuple_iterator_next (wpAny_call_entry F.slot_tuple_iterator_next ty F.entry_tuple_iterator_next ?_ (F.args_tuple_iterator_next_1 _)))
  show wpAny _ _ (field (Value.ref it) 0 >>= _) _ _ _
  refine wpAny_bind (wpAny_field e1 d1 (x:=.ref l) rfl ?_)
  show wpAny _ _ (if (Value.ref l==Value.none)=true then _ else _) _ _ _
  rw [if_neg (show ¬(Value.ref l==Value.none)=true from Bool.false_ne_true)]
  show wpAny _ _ (field (Value.ref it) 1 >>= _) _ _ _
  refine wpAny_bind (wpAny_field e1 d1 (x:=.int k 0) rfl ?_)
  show wpAny _ _ (seqItems? (Value.ref l) >>= _) _ _ _
  refine wpAny_bind (wpAny_seqItems e2 d2 ?_)
  simp only [Int.toNat_natCast,hx]
  refine wpAny_bind (wpAny_rule (wpAny_bind (wpAny_setField e1 d1 (by simp) ?_)));show wpAny _ _ (newExc (.type "StopIteration") [] >>= _) _ _ _;refine wpAny_bind ?_;simp only [newExc,newTuple]
  refine wpAny_bind (wpAny_newObj_type ?_ (by size_fits));refine wpAny_bind (m:=firstArgMember _ _) (wpAny_of_eq (a:=Value.none) (by first|rfl|(simp only [firstArgMember];rfl)) ?_)
  refine wpAny_newObj_type ?_ (by size_fits);simp only [raiseNew];refine wpAny_bind (wpAny_handled ?_);first|rw [show A.in1.handled=none from hh]|rw [hh]
  refine wpAny_bind (wpAny_pure (wpAny_throw ?_))
  exact q _ _ (((Heap.SameBut.update ..).extBut.push _).push _) ⟨_,Heap.get?_push_size _ rfl,rfl⟩
structure ZAt (k1 k2:Bool)(z TI TO i1 i2 l1 l2:Addr)(n:Nat)(h:Heap):Prop where
 z:IsZip h z TI TO .none
 ti:IsPair h TI (.ref i1) (.ref i2)
 to:∃a b,IsPair h TO a b
 a:Rq k1 h i1 l1 n
 b:Rq k2 h i2 l2 n
theorem V4 {k1 k2:Bool}{z TI TO i1 i2 l1 l2:Addr}{n:Nat}{xs ys:Array Value}{x y:Value}{Q:Option Value→Shared→Prop}(D:ZipApart z TI TO i1 i2 l1 l2)(Z:ZAt k1 k2 z TI TO i1 i2 l1 l2 n s.heap)
  (hl1:Nl k1 s.heap l1 xs) (hl2:Nl k2 s.heap l2 ys) (hx:xs[n]? =some x) (hy:ys[n]? =some y)
  (q:∀g,IsZip g z TI TO (rawInt s.heap.objs.size)→IsPair g TO x y→Rq k1 g i1 l1 (n+1)→Rq k2 g i2 l2 (n+1)→IsPair g s.heap.objs.size x y →
   (∀c o,c≠z→c≠TO→c≠i1→c≠i2→s.heap.get? c=some o→g.get? c=some o)→Q (some (.ref s.heap.objs.size)) { s with heap:=g }) :
  wpAny (model prog w) A (pyNext (.ref z)) Q E s:=by
 obtain ⟨Zz,Zi,⟨a,b,Zo⟩,Za,Zb⟩:=Z
 have hT:s.TypeIs (.ref z) "zip":=⟨_,Zz,rfl⟩
 unfold pyNext;refine wpAny_bind (wpAny_attempt (wpAny_callSpecial?_slot (name:=Str.ofString "__next__") hT F.slot_zip_next (wpAny_call_entry F.slot_zip_next hT F.entry_zip_next ?_ (F.args_zip_next_1 _))))
 show wpAny _ _ (field (Value.ref z) 2 >>= _) _ _ _
 refine wpAny_bind (wpAny_field Zz rfl (x:=.bool false) rfl ?_)
 show wpAny _ _ (field (Value.ref z) 3 >>= _) _ _ _
 refine wpAny_bind (wpAny_field Zz rfl (x:=.ref TI) rfl ?_)
 refine wpAny_bind (wpAny_seqItems Zi rfl ?_)
 show wpAny _ _ (Builtin.SmallTypes.ownedTupleIsFree (Value.ref z) >>= _) _ _ _
 refine wpAny_bind ?_;unfold Builtin.SmallTypes.ownedTupleIsFree
 refine wpAny_bind (wpAny_field Zz rfl (x:=.none) rfl (wpAny_pure ?_));simp only [if_true];refine wpAny_bind (wpAny_rule ?_)
 refine wpAny_bind (wpAny_field Zz rfl (x:=.ref TO) rfl ?_)
 refine wpAny_bind (wpAny_setField_rec Zz (by simp) fun g1 z1 s1=>?_)
 have z1:IsZip g1 z TI TO .ellipsis:=z1
 refine wpAny_bind ?_;simp only [List.zipIdx_cons,List.zipIdx_nil,List.forIn_cons,List.forIn_nil]
 refine wpAny_bind (wpAny_bind (wpAny_onRaise ?_));show wpAny _ _ (Builtin.SmallTypes.nextOf (Value.ref i1) >>= _) _ _ _
 refine wpAny_bind (Hi (Za.mv fun o e=>s1.extBut _ _ D.i1z e) (hl1.mv fun o e=>s1.extBut _ _ D.l1z e) hx fun g2 a2 s2=>wpAny_pure ?_)
 have o2:IsPair g2 TO a b:=s2.extBut _ _ D.TOi1 (s1.extBut _ _ D.TOz Zo)
 refine wpAny_bind (wpAny_seqItems o2 rfl ?_)
 refine wpAny_bind (wpAny_updateSeq_pair o2 fun g3 o3 s3=>?_)
 have o3:IsPair g3 TO x b:=o3
 refine wpAny_bind (wpAny_letGo (wpAny_pure ?_))
 refine wpAny_bind (wpAny_bind (wpAny_onRaise ?_));show wpAny _ _ (Builtin.SmallTypes.nextOf (Value.ref i2) >>= _) _ _ _
 refine wpAny_bind (Hi (Zb.mv fun o e=>s3.extBut _ _ D.TOi2.symm (s2.extBut _ _ D.i12.symm (s1.extBut _ _ D.i2z e))) (hl2.mv fun o e=>s3.extBut _ _ D.l2TO (s2.extBut _ _ D.l2i1 (s1.extBut _ _ D.l2z e))) hy fun g4 a4 s4=>wpAny_pure ?_)
 have o4:IsPair g4 TO x b:=s4.extBut _ _ D.TOi2 o3
 refine wpAny_bind (wpAny_seqItems o4 rfl ?_)
 refine wpAny_bind (wpAny_updateSeq_pair o4 fun g5 o5 s5=>?_)
 have o5:IsPair g5 TO x y:=o5
 refine wpAny_bind (wpAny_letGo (wpAny_pure (wpAny_pure ?_)))
 refine wpAny_bind (wpAny_seqItems o5 rfl ?_)
 refine wpAny_bind (wpAny_newTuple ?_)
 have sz:g5.objs.size=s.heap.objs.size:=by rw [s5.1,s4.1,s3.1,s2.1,s1.1]
 have z5:IsZip g5 z TI TO .ellipsis:=s5.extBut _ _ D.TOz.symm (s4.extBut _ _ D.i2z.symm (s3.extBut _ _ D.TOz.symm (s2.extBut _ _ D.i1z.symm z1)))
 have kp:∀c o,c≠z→c≠TO→c≠i1→c≠i2→s.heap.get? c=some o→g5.get? c=some o:=fun c o n1 n2 n3 n4 e=>s5.extBut _ _ n2 (s4.extBut _ _ n4 (s3.extBut _ _ n2 (s2.extBut _ _ n3 (s1.extBut _ _ n1 e))))
 have a5:Rq k1 g5 i1 l1 (n+1):=a2.mv fun o e=>s5.extBut _ _ D.TOi1.symm (s4.extBut _ _ D.i12 (s3.extBut _ _ D.TOi1.symm e))
 have b5:Rq k2 g5 i2 l2 (n+1):=a4.mv fun o e=>s5.extBut _ _ D.TOi2.symm e
 have zlt:z<g5.objs.size:=Heap.lt_size z5
 show wpAny _ _ (Builtin.SmallTypes.ownedTupleHandOut (Value.ref z) (Value.ref g5.objs.size) >>= _) _ _ _
 refine wpAny_bind ?_;unfold Builtin.SmallTypes.ownedTupleHandOut
 have z6:IsZip (g5.push { cls:=.type "tuple",data:=.seq #[x,y] }) z TI TO .ellipsis:=Heap.get?_push_of_some _ z5
 refine wpAny_bind (wpAny_setField_rec z6 (by simp) fun g7 z7 s7=>?_)
 have z7:IsZip g7 z TI TO (rawInt g5.objs.size):=z7
 refine wpAny_setField_rec z7 (by simp) fun g8 z8 s8=>?_
 have z8:IsZip g8 z TI TO (rawInt g5.objs.size):=z8
 have up:∀c o,c≠z→g5.get? c=some o→g8.get? c=some o:=fun c o n1 e=>s8.extBut _ _ n1 (s7.extBut _ _ n1 (Heap.get?_push_of_some _ e))
 have t8:IsPair g8 g5.objs.size x y:=s8.extBut _ _ (Nat.ne_of_gt zlt) (s7.extBut _ _ (Nat.ne_of_gt zlt) (Heap.get?_push_size _ rfl))
 rw [sz] at z8 t8
 refine wpAny_pure ⟨_,rfl,?_⟩
 show wpAny _ _ (pure (some (Value.ref g5.objs.size))) _ _ _
 rw [sz]
 exact wpAny_pure (q g8 z8 (up _ _ D.TOz o5) (a5.mv fun o e=>up _ o D.i1z e) (b5.mv fun o e=>up _ o D.i2z e) t8 fun c o n1 n2 n3 n4 e=>up c o n1 (kp c o n1 n2 n3 n4 e))
theorem X0 {k1 k2:Bool}{z TI TO i1 i2 l1 l2:Addr}{n:Nat}{xs ys:Array Value}{Q:Option Value→Shared→Prop}(hh:A.handled=none)(D:ZipApart z TI TO i1 i2 l1 l2)(Z:ZAt k1 k2 z TI TO i1 i2 l1 l2 n s.heap)
  (hl1:Nl k1 s.heap l1 xs) (hl2:Nl k2 s.heap l2 ys) (hend:xs[n]? =none∨ys[n]? =none)
  (q:∀g,(∀c o,c≠z→c≠TO→c≠i1→c≠i2→s.heap.get? c=some o→g.get? c=some o)→Q none { s with heap:=g }):wpAny (model prog w) A (pyNext (.ref z)) Q E s:=by
 obtain ⟨Zz,Zi,⟨a,b,Zo⟩,Za,Zb⟩:=Z
 have hT:s.TypeIs (.ref z) "zip":=⟨_,Zz,rfl⟩
 unfold pyNext;refine wpAny_bind (wpAny_attempt (wpAny_callSpecial?_slot (name:=Str.ofString "__next__") hT F.slot_zip_next (wpAny_call_entry F.slot_zip_next hT F.entry_zip_next ?_ (F.args_zip_next_1 _))))
 show wpAny _ _ (field (Value.ref z) 2 >>= _) _ _ _
 refine wpAny_bind (wpAny_field Zz rfl (x:=.bool false) rfl ?_)
 show wpAny _ _ (field (Value.ref z) 3 >>= _) _ _ _
 refine wpAny_bind (wpAny_field Zz rfl (x:=.ref TI) rfl ?_)
 refine wpAny_bind (wpAny_seqItems Zi rfl ?_)
 show wpAny _ _ (Builtin.SmallTypes.ownedTupleIsFree (Value.ref z) >>= _) _ _ _
 refine wpAny_bind ?_;unfold Builtin.SmallTypes.ownedTupleIsFree
 refine wpAny_bind (wpAny_field Zz rfl (x:=.none) rfl (wpAny_pure ?_));simp only [if_true];refine wpAny_bind (wpAny_rule ?_)
 refine wpAny_bind (wpAny_field Zz rfl (x:=.ref TO) rfl ?_)
 refine wpAny_bind (wpAny_setField_rec Zz (by simp) fun g1 z1 s1=>?_)
 have z1:IsZip g1 z TI TO .ellipsis:=z1
 refine wpAny_bind ?_;simp only [List.zipIdx_cons,List.zipIdx_nil,List.forIn_cons,List.forIn_nil]
 refine wpAny_bind (wpAny_bind (wpAny_onRaise ?_));show wpAny _ _ (Builtin.SmallTypes.nextOf (Value.ref i1) >>= _) _ _ _
 cases hx:xs[n]? with
 |none=>
  refine wpAny_bind (N5 hh (Za.mv fun o e=>s1.extBut _ _ D.i1z e) (hl1.mv fun o e=>s1.extBut _ _ D.l1z e) hx fun g2 e s2 ⟨oe,he,ce⟩=>?_)
  have z2:IsZip g2 z TI TO .ellipsis:=s2 _ _ D.i1z.symm z1
  have ne:e≠z:=fun x=>by subst x;rw [z2] at he;cases he;simp at ce
  refine wpAny_setField_rec z2 (by simp) fun g3 _ s3=>?_
  exact wpAny_bind (wpAny_isInstance (T:="StopIteration") (b:=true) ⟨oe,s3.extBut _ _ ne he,ce⟩ isSubtype_stop (wpAny_pure (q g3 fun c o n1 _ n3 _ x=>s3.extBut _ _ n1 (s2 _ _ n3 (s1.extBut _ _ n1 x)))))
 |some x=>
  have hy:ys[n]? =none:=by rcases hend with h|h;rw [hx] at h;cases h;exact h
  refine wpAny_bind (Hi (Za.mv fun o e=>s1.extBut _ _ D.i1z e) (hl1.mv fun o e=>s1.extBut _ _ D.l1z e) hx fun g2 a2 s2=>wpAny_pure ?_)
  have o2:IsPair g2 TO a b:=s2.extBut _ _ D.TOi1 (s1.extBut _ _ D.TOz Zo)
  refine wpAny_bind (wpAny_seqItems o2 rfl ?_)
  refine wpAny_bind (wpAny_updateSeq_pair o2 fun g3 o3 s3=>?_)
  refine wpAny_bind (wpAny_letGo (wpAny_pure ?_))
  refine wpAny_bind (wpAny_bind (wpAny_onRaise ?_));show wpAny _ _ (Builtin.SmallTypes.nextOf (Value.ref i2) >>= _) _ _ _
  refine wpAny_bind (N5 hh (Zb.mv fun o e=>s3.extBut _ _ D.TOi2.symm (s2.extBut _ _ D.i12.symm (s1.extBut _ _ D.i2z e))) (hl2.mv fun o e=>s3.extBut _ _ D.l2TO (s2.extBut _ _ D.l2i1 (s1.extBut _ _ D.l2z e))) hy fun g4 e s4 ⟨oe,he,ce⟩=>?_)
  have z4:IsZip g4 z TI TO .ellipsis:=s4 _ _ D.i2z.symm (s3.extBut _ _ D.TOz.symm (s2.extBut _ _ D.i1z.symm z1))
  have ne:e≠z:=fun x=>by subst x;rw [z4] at he;cases he;simp at ce
  refine wpAny_setField_rec z4 (by simp) fun g5 _ s5=>?_
  exact wpAny_bind (wpAny_isInstance (T:="StopIteration") (b:=true) ⟨oe,s5.extBut _ _ ne he,ce⟩ isSubtype_stop (wpAny_pure (q g5 fun c o n1 n2 n3 n4 x=>s5.extBut _ _ n1 (s4 _ _ n4 (s3.extBut _ _ n2 (s2.extBut _ _ n3 (s1.extBut _ _ n1 x)))))))
def itO (kd:Bool)(l:Addr):Obj:=match kd with
 |true=>{ cls:=.type "list_iterator",data:=.fields #[.ref l,.int 0 0] }
 |false=>{ cls:=.type "tuple_iterator",data:=.fields #[.ref l,.int 0 0] }
theorem Adm {kd:Bool}{l:Addr}{xs:Array Value}{Q:Value→Shared→Prop}(h:Nl kd s.heap l xs)(q:Q (.ref s.heap.objs.size) { s with heap:=s.heap.push (itO kd l) }):wpAny (model prog w) A (pyIter (.ref l)) Q E s:=by
 cases kd with
 |true=>exact wpAny_pyIter_list h q
 |false=>exact wpAny_pyIter_tuple h q
theorem Aai {kd:Bool}{h:Heap}{i l:Addr}(e:h.get? i=some (itO kd l)):Rq kd h i l 0:=by
 cases kd with
 |true=>exact ⟨_,e,rfl,rfl⟩
 |false=>exact ⟨_,e,rfl,rfl⟩
end
abbrev zK1 (k1:Bool)(h:Heap)(l1:Addr):Heap:=h.push (itO k1 l1)
abbrev zK2 (k1 k2:Bool)(h:Heap)(l1 l2:Addr):Heap:=(zK1 k1 h l1).push (itO k2 l2)
abbrev zK3 (k1 k2:Bool)(h:Heap)(l1 l2:Addr):Heap:=(zK2 k1 k2 h l1 l2).push { cls:=.type "tuple",data:=.seq #[.ref h.objs.size,.ref (zK1 k1 h l1).objs.size] }
abbrev zK4 (k1 k2:Bool)(h:Heap)(l1 l2:Addr):Heap:=(zK3 k1 k2 h l1 l2).push { cls:=.type "tuple",data:=.seq #[.none,.none] }
abbrev zK5 (k1 k2:Bool)(h:Heap)(l1 l2:Addr):Heap:=(zK4 k1 k2 h l1 l2).push { cls:=.type "zip",data:=.fields #[.none,.bool false,.bool false,.ref (zK2 k1 k2 h l1 l2).objs.size,.ref (zK3 k1 k2 h l1 l2).objs.size] }
theorem Xt (k1 k2:Bool)(l1 l2:Addr)(xs ys:Array Value) :
  Meets (Builtin.«zip.__new__» ⟨[.type "zip",.ref l1,.ref l2],[]⟩) (fun _ R s=>Nl k1 s.heap l1 xs∧Nl k2 s.heap l2 ys∧R (.ok (.ret (.ref (zK4 k1 k2 s.heap l1 l2).objs.size))) { s with heap:=zK5 k1 k2 s.heap l1 l2 }):=
 .of_wp fun prog w A R s h=>by
  obtain ⟨hp,g,d,tk,os⟩:=s;obtain ⟨a1,a2,h⟩:=h
  have hsub:=sub_zip
  have b1:Nl k1 (Shared.heap ⟨hp,g,d,tk,os⟩) l1 xs:=a1
  have b2:Nl k2 (Shared.heap ⟨hp.push (itO k1 l1),g,d,tk,os⟩) l2 ys:=a2.mv fun o e=>Heap.get?_push_of_some _ e
  wp_walk using Adm b1,Adm b2
  exact ⟨_,rfl,h⟩
section
variable {prog:Program}{w:World}{A:Around}{E:Value→Shared→Prop}{s:Shared}
theorem Wf {k1 k2:Bool}{l1 l2:Addr}{xs ys:Array Value}{Q:Value→Shared→Prop}(h1:Nl k1 s.heap l1 xs)(h2:Nl k2 s.heap l2 ys)
  (q:∀g,ZAt k1 k2 (s.heap.objs.size+4) (s.heap.objs.size+2) (s.heap.objs.size+3) s.heap.objs.size (s.heap.objs.size+1) l1 l2 0 g→(∀c o,s.heap.get? c=some o→g.get? c=some o)→Q (.ref (s.heap.objs.size+4)) { s with heap:=g }) :
  wpAny (model prog w) A (call (.type "zip") [.ref l1,.ref l2]) Q E s:=by
 refine callType_new F.called_zip (by decide) (F.typeCall_zip_2 _ _) (F.newCall_zip_2 _ _) (fun obj=>F.args_object_init_3 obj _ _) F.entry_zip_new (Xt k1 k2 l1 l2 xs ys) ⟨h1,h2,?_⟩
 have m1:(zK1 k1 s.heap l1).objs.size=s.heap.objs.size+1:=Heap.size_push ..
 have m2:(zK2 k1 k2 s.heap l1 l2).objs.size=s.heap.objs.size+2:=by rw [Heap.size_push,m1]
 have m3:(zK3 k1 k2 s.heap l1 l2).objs.size=s.heap.objs.size+3:=by rw [Heap.size_push,m2]
 have m4:(zK4 k1 k2 s.heap l1 l2).objs.size=s.heap.objs.size+4:=by rw [Heap.size_push,m3]
 have fz:∀l,(itO k1 l).isFreed=false:=fun l=>by cases k1<;>rfl
 have fz2:∀l,(itO k2 l).isFreed=false:=fun l=>by cases k2<;>rfl
 have g5:(zK5 k1 k2 s.heap l1 l2).get? (zK4 k1 k2 s.heap l1 l2).objs.size=some _:=Heap.get?_push_size _ rfl
 have g4:(zK5 k1 k2 s.heap l1 l2).get? (zK3 k1 k2 s.heap l1 l2).objs.size=some _:=Heap.get?_push_of_some _ (Heap.get?_push_size _ rfl)
 have g3:(zK5 k1 k2 s.heap l1 l2).get? (zK2 k1 k2 s.heap l1 l2).objs.size=some _:=Heap.get?_push_of_some _ (Heap.get?_push_of_some _ (Heap.get?_push_size _ rfl))
 have g2:(zK5 k1 k2 s.heap l1 l2).get? (zK1 k1 s.heap l1).objs.size=some (itO k2 l2):=Heap.get?_push_of_some _ (Heap.get?_push_of_some _ (Heap.get?_push_of_some _ (Heap.get?_push_size _ (fz2 _))))
 have g1:(zK5 k1 k2 s.heap l1 l2).get? s.heap.objs.size=some (itO k1 l1):=Heap.get?_push_of_some _ (Heap.get?_push_of_some _ (Heap.get?_push_of_some _ (Heap.get?_push_of_some _ (Heap.get?_push_size _ (fz _)))))
 show _∧_
 rw [m2,m3,m4] at g5
 rw [m1,m2] at g3
 rw [m3] at g4
 rw [m1] at g2
 rw [m4]
 exact ⟨⟨_,g5,rfl⟩,q _ ⟨g5,g3,⟨_,_,g4⟩,Aai g1,Aai g2⟩ fun c o x=>Heap.get?_push_of_some _ (Heap.get?_push_of_some _ (Heap.get?_push_of_some _ (Heap.get?_push_of_some _ (Heap.get?_push_of_some _ x))))⟩
end
section
variable {X:Cx}
theorem J2 {pins:List (Addr×Obj)}{σ:L2.St}{H:Hp}{s:Shared}{h':Heap}{t':Nat}{fp:List Addr}(I:Ap X pins σ H s)(k:∀b o,b∉fp→s.heap.get? b=some o→h'.get? b=some o)(hf:∀b∈fp,J3 X pins H b) :
  Ap X pins σ H { s with heap:=h',toks:=t' }:=by
 have nit:∀b u,H b=some u→b∉fp:=fun b u e z=>by rw [(hf b z).1] at e;cases e
 refine I.step (g':=s.gens) (d':=s.drawn) (ch:=fp) (fun b hb=>?_) (fun b o _ _ hc e _=>k b o hc e) (fun b o _ _ hc e _=>⟨o.slots,k b o hc e⟩) (fun _ _ _ _ n=>n) (fun b o hc e=>⟨o,k b o hc e⟩) (fun _ _ e=>e) (fun _ _ _ e=>e)
  (fun b ps e=>⟨#[],by rw [e];simp⟩) (fun m hm=>?_) (fun b u e=>?_) I.bare
 ·obtain ⟨_,f1,f2,f3,f4,f5⟩:=hf b hb
  exact ⟨f3,f1,f4,f5⟩
 ·obtain ⟨o,es,ep,ho,r⟩:=hm
  exact ⟨o,es,ep,k _ o (fun z=>(hf _ z).2.1 rfl) ho,r⟩
 ·refine (I.hok b u e).stay (fun c v hc q=>k c v ?_ q) (fun _ q=>q) fun _ _ q=>q
  rcases hc with z|z
  ·rw [z];exact nit b u e
  ·exact nit c _ z
theorem Tl {pins:List (Addr×Obj)}{σ:L2.St}{H:Hp}{s:Shared}{h':Heap}{t':Nat}{fp:List Addr}{a:Addr}{o:HO}(I:Ap X pins σ H s)(k:∀b o,b∉fp→s.heap.get? b=some o→h'.get? b=some o)(hf:∀b∈fp,J3 X pins H b)
  (hp:s.heap.objs.size≤a) (new:A4 X.prog X.w (upd H a o) h' a o):Ap X pins σ (upd H a o) { s with heap:=h',toks:=t' }:=by
 have hn:=I.hok.fresh hp
 have nit:∀b u,H b=some u→b∉fp:=fun b u e z=>by rw [(hf b z).1] at e;cases e
 have old:∀b u,H b=some u→upd H a o b=some u:=fun b u e=>by rw [Ak (A9 e hn)];exact e
 refine I.step (g':=s.gens) (d':=s.drawn) (ch:=fp) (fun b hb=>?_) (fun b o _ _ hc e _=>k b o hc e) (fun b o _ _ hc e _=>⟨o.slots,k b o hc e⟩) (fun b u _ e n=>?_) (fun b o hc e=>⟨o,k b o hc e⟩) (fun b xs e=>old b _ e) (fun b ob u e=>old b _ e)
  (fun b ps e=>⟨#[],by rw [old b _ e];simp⟩) (fun m hm=>?_) (fun b u e=>?_) I.bare
 ·obtain ⟨_,f1,f2,f3,f4,f5⟩:=hf b hb
  exact ⟨f3,f1,f4,f5⟩
 ·rw [Ak (Nat.ne_of_lt (Nat.lt_of_lt_of_le (Heap.lt_size e) hp))]
  exact n
 ·obtain ⟨o,es,ep,ho,r⟩:=hm
  exact ⟨o,es,ep,k _ o (fun z=>(hf _ z).2.1 rfl) ho,r⟩
 ·by_cases hb:b=a
  ·subst hb;rw [Ad] at e;cases e;exact new
  ·rw [Ak hb] at e
   refine (I.hok b u e).stay (fun c v hc q=>k c v ?_ q) (fun c q=>old c _ q) fun c xs q=>old c _ q
   rcases hc with z|z
   ·rw [z];exact nit b u e
   ·exact nit c _ z
theorem Kj {kd:Bool}{pins:List (Addr×Obj)}{σ:L2.St}{H:Hp}{s:Shared}{a:Addr}{xs:List V}(I:Ap X pins σ H s)(h:Wp kd X.K H a xs):∃its:List Value,Az xs its∧Nl kd s.heap a its.toArray:=by
 cases kd with
 |true=>obtain ⟨its,r,p,_⟩:=I.list h;exact ⟨its,r,p.isList⟩
 |false=>obtain ⟨its,r,p,_⟩:=I.tuple h;exact ⟨its,r,p⟩
theorem Yz {kd:Bool}{pins:List (Addr×Obj)}{σ:L2.St}{H:Hp}{s:Shared}{a:Addr}{xs ys:List V}(I:Ap X pins σ H s)(h:Wp kd X.K H a xs)(h':Wp kd X.K H a ys):xs=ys:=by
 cases kd with
 |true=>exact I.list_inj h h'
 |false=>exact I.tuple_inj h h'
def Itz (k1 k2:Bool)(K:PySem.W.Frag)(a b:Addr):It:=
 ⟨fun i H=>∃xs ys x y,Wp k1 K H a xs∧Wp k2 K H b ys∧xs[i]? =some x∧ys[i]? =some y,
  fun i H v H'=>∃t x y,v=.ref t∧H t=none∧H'=upd H t (.tup [x,y])∧(∀xs,Wp k1 K H a xs→xs[i]? =some x)∧∀ys,Wp k2 K H b ys→ys[i]? =some y,
  fun i H=>∃xs ys,Wp k1 K H a xs∧Wp k2 K H b ys∧(xs.length≤i∨ys.length≤i)⟩
theorem Wr {n l1 l2:Nat}(h1:l1<n)(h2:l2<n):ZipApart (n+4) (n+2) (n+3) n (n+1) l1 l2:=by
 constructor<;>(show @Ne Nat _ _)<;>omega
theorem Yb {P:Program}{w:World}{K:PySem.W.Frag}{es:List Expr}{x1}{pos:Pos}{k1 k2:Bool}{z TI TO i1 i2 a b:Addr}(D:ZipApart z TI TO i1 i2 a b) :
  W7 P w K (.Tuple es x1 pos) (Itz k1 k2 K a b) [z,TI,TO,i1,i2] z (ZAt k1 k2 z TI TO i1 i2 a b) where
 mem:=by simp
 obj:=fun i h Z c hc=>by
  have hc:c=z∨c=TI∨c=TO∨c=i1∨c=i2:=by simpa using hc
  rcases hc with rfl|rfl|rfl|rfl|rfl
  ·exact ⟨_,Z.z,fun v e=>by cases e⟩
  ·exact ⟨_,Z.ti,fun v e=>by cases e⟩
  ·obtain ⟨u,v,e⟩:=Z.to
   exact ⟨_,e,fun v e=>by cases e⟩
  ·exact Z.a.ob
  ·exact Z.b.ob
 keep:=fun i h h' Z k=>by
  obtain ⟨u,v,e⟩:=Z.to
  exact ⟨k z (by simp) _ Z.z,k TI (by simp) _ Z.ti,⟨u,v,k TO (by simp) _ e⟩,Z.a.mv fun o q=>k i1 (by simp) o q,Z.b.mv fun o q=>k i2 (by simp) o q⟩
 item:=by
  intro X hP hw hK hc i pins s σ H E I hf Z hg
  subst hP hw hK
  obtain ⟨xs,ys,x,y,q1,q2,e1,e2⟩:=hg
  obtain ⟨us,r1,p1⟩:=Kj I q1
  obtain ⟨vs,r2,p2⟩:=Kj I q2
  obtain ⟨u,hu,ru⟩:=r1.get e1
  obtain ⟨v,hv,rv⟩:=r2.get e2
  have F:=fun c (m:c∈[z,TI,TO,i1,i2])=>hf c m
  have hfr:H s.heap.objs.size=none:=I.hok.fresh (Nat.le_refl _)
  refine V4 D Z p1 p2 (x:=u) (y:=v) (by simpa using hu) (by simpa using hv) fun g a1 a2 a3 a4 a5 kp=>⟨_,rfl,?_⟩
  have zlt:z<s.heap.objs.size:=Heap.lt_size Z.z
  have tlt:TO<s.heap.objs.size:=by obtain ⟨_,_,e⟩:=Z.to;exact Heap.lt_size e
  have ilt:i1<s.heap.objs.size:=by obtain ⟨_,e,_⟩:=Z.a.ob;exact Heap.lt_size e
  have jlt:i2<s.heap.objs.size:=by obtain ⟨_,e,_⟩:=Z.b.ob;exact Heap.lt_size e
  refine wpAny_letOwnedTupleGo_zip (s:={ s with heap:=g }) a1 fun g' z' s'=>?_
  have kp':∀c o,c≠z→c≠TO→c≠i1→c≠i2→s.heap.get? c=some o→g'.get? c=some o:=fun c o n1 n2 n3 n4 e=>s'.extBut _ _ n1 (kp c o n1 n2 n3 n4 e)
  have a5':IsPair g' s.heap.objs.size u v:=s'.extBut _ _ (Nat.ne_of_gt zlt) a5
  have I1:Ap X pins σ (upd H s.heap.objs.size (.tup [x,y])) { s with heap:=g' }:=by
   refine Tl I (fp:=[z,TO,i1,i2]) (fun c o hc e=>kp' c o (fun x=>hc (by simp [x])) (fun x=>hc (by simp [x])) (fun x=>hc (by simp [x])) (fun x=>hc (by simp [x])) e) ?_ (Nat.le_refl _) ?_
   ·intro c hc
    exact hf c (by simp at hc ⊢;rcases hc with h|h|h|h<;>simp [h])
   ·exact ⟨by show 2≤sizeLine;decide,[u,v],.cons ru (.cons rv .nil),⟨_,a5',rfl,_,rfl⟩⟩
  refine ⟨.ref s.heap.objs.size,_,I1,rfl,⟨_,x,y,rfl,hfr,rfl,fun zs hz=>by rw [Yz I hz q1];exact e1,fun zs hz=>by rw [Yz I hz q2];exact e2⟩,?_,?_⟩
  ·exact ⟨z',kp' _ _ D.TIz D.TITO D.TIi1 D.TIi2 Z.ti,⟨_,_,s'.extBut _ _ D.TOz a2⟩,a3.mv fun o e=>s'.extBut _ _ D.i1z e,a4.mv fun o e=>s'.extBut _ _ D.i2z e⟩
  ·intro c hc
   have hlt:c<s.heap.objs.size:=by
    have hc:c=z∨c=TI∨c=TO∨c=i1∨c=i2:=by simpa using hc
    rcases hc with rfl|rfl|rfl|rfl|rfl
    ·exact zlt
    ·exact Heap.lt_size Z.ti
    ·exact tlt
    ·exact ilt
    ·exact jlt
   rw [Ak (Nat.ne_of_lt hlt)]
   exact (hf c hc).1
 done:=by
  intro X hP hw hK hc i pins s σ H E I hf Z hg
  subst hP hw hK
  obtain ⟨xs,ys,q1,q2,e⟩:=hg
  obtain ⟨us,r1,p1⟩:=Kj I q1
  obtain ⟨vs,r2,p2⟩:=Kj I q2
  have l1:=r1.length
  have l2:=r2.length
  have he:us.toArray[i]? =none∨vs.toArray[i]? =none:=by
   rcases e with e|e
   ·left
    simp
    omega
   ·right
    simp
    omega
  refine X0 (I.ok.hd hc) D Z p1 p2 he fun g kp=>⟨rfl,?_⟩
  refine J2 I (fp:=[z,TO,i1,i2]) (fun c o hc e=>kp c o (fun x=>hc (by simp [x])) (fun x=>hc (by simp [x])) (fun x=>hc (by simp [x])) (fun x=>hc (by simp [x])) e) ?_
  intro c hc
  exact hf c (by simp at hc ⊢;rcases hc with h|h|h|h<;>simp [h])
 self:=fun _ _ _ _ _ Z h=>wpAny_pyIter_zip Z.z h
def Akp (k1 k2:Bool)(K:PySem.W.Frag)(ta:TA):TI:=fun σ H R=>ta σ H fun vs H1=>match vs with
 |[.ref a,.ref b]=>(∃xs,Wp k1 K H1 a xs)∧(∃ys,Wp k2 K H1 b ys)∧R (Itz k1 k2 K a b) H1
 |_=>False
theorem Agl (k1 k2:Bool){a b:Expr}{ta:TA}{p pos:Pos}{es:List Expr}{x1}{tp:Pos}(hg:Gl X "zip")(hm:X.mg "zip"=none)(ha:PA X [a,b] ta)(hs:starEach [a,b] X.env=[(false,eval a X.env),(false,eval b X.env)]:=by rfl)
  (hs2:starEach [b] X.env=[(false,eval b X.env)]:=by rfl):PI X (.Tuple es x1 tp) (.Call (.Name "zip" p) [a,b] [] pos) (Akp k1 k2 X.K ta):=by
 intro pins s σ H R I h
 refine Call_ (Fr I hg hm boot_zip (PyProof.Rows.callWith_type1 (Ba (ha pos pins s σ H _ I h) fun us s1 ⟨vs,H1,I1,r1,q1⟩=>?_) (by rw [hs,hs2]) (by rw [hs2];rfl)))
 match vs,q1 with
 | [.ref l1,.ref l2],⟨⟨xs,hx⟩,⟨ys,hy⟩,q⟩=>
  obtain ⟨u,v,rfl,e1,e2⟩:=Fi r1
  cases (show u=Value.ref l1 from e1)
  cases (show v=Value.ref l2 from e2)
  obtain ⟨us',_,p1⟩:=Kj I1 hx
  obtain ⟨vs',_,p2⟩:=Kj I1 hy
  have lt1:=p1.lt
  have lt2:=p2.lt
  refine Wf p1 p2 fun g Z kp=>wpAny_pyIter_zip (s:={ s1 with heap:=g }) Z.z ?_
  have I2:Ap X pins σ H1 { s1 with heap:=g }:=I1.kept (t':=s1.toks) kp
  refine ⟨_,[s1.heap.objs.size+4,s1.heap.objs.size+2,s1.heap.objs.size+3,s1.heap.objs.size,s1.heap.objs.size+1],_,_,H1,rfl,I2,Yb (Wr lt1 lt2),Z,fun c hc=>?_,q⟩
  have hc:@LE.le Nat _ s1.heap.objs.size c:=by
   have hc:c=s1.heap.objs.size+4∨c=s1.heap.objs.size+2∨c=s1.heap.objs.size+3∨c=s1.heap.objs.size∨c=s1.heap.objs.size+1:=by simpa using hc
   rcases hc with h|h|h|h|h<;>rw [h]<;>first|exact Nat.le_refl _|exact Nat.le_add_right _ _
  exact I1.fpOk hc (I1.hok.fresh hc)
end
section
variable {X:Cx}
def Aie:R2:=fun x y H Q=>match x,y with
 |.ref l,.ref b=>∃xs zs,H l=some (.lst xs)∧H b=some (.lst zs)∧xs.length+zs.length≤1000∧∀p H',Ai H H'→H' p=some (.lst (xs++zs))→Q (.ref p) H'
 |_,_=>False
theorem Mw:C6 X (binaryOp .Add) Aie:=by
 intro pins s σ H x y v u Q I rx ry q
 cases x<;>cases y<;>first
  |exact False.elim q
  | (obtain ⟨xs,zs,h1,h2,h3,q⟩:=q
     exact Agc _ _ _ _ _ _ _ _ _ I rx ry ⟨_,_,xs,zs,rfl,rfl,h1,h2,Nat.le_trans h3 (by decide),fun p hp=>q p _ (Al hp) Ad⟩)
def Akt (K:PySem.W.Frag):V→Option Int→Option Int→Hp→VK→Prop:=fun x lo hi H Q=>match x with
 |.ref a=>∃xs,A0 K H a xs∧∀p H',Ai H H'→H' p=some (.lst (Dn xs lo hi))→Q (.ref p) H'
 |_=>False
theorem J1:SlR X (Akt X.K):=by
 intro pins s σ H x v vl vu lo hi sl Q I rx hs pl pu h
 cases x<;>first
  |exact False.elim h
  | (obtain ⟨xs,h1,q⟩:=h
     exact Abg _ _ _ _ _ _ _ _ _ _ _ _ I rx hs pl pu ⟨_,xs,rfl,h1,fun p hp=>q p _ (Al hp) Ad⟩)
theorem Rm {xs:List V}{lo hi:Option Int}{v:V}(h:v∈Dn xs lo hi):v∈xs:=List.mem_of_mem_drop (List.mem_of_mem_take h)
end
end Lw
end
section
namespace Lw
open PySem PySem.Spec PyProof.Rows L2
section
variable {X:Cx}{pos:Pos}
end
end Lw
end
section
namespace Lw
open PySem PySem.Spec PyProof.Rows L2
section
variable {prog:Program}{w:World}{A:Around}{R:Result→Shared→Prop}{s:Shared}
theorem Abx (elt tg iter:Expr)(scope:Scope)(pos:Pos)(it acc:Value)(env:Env) :
  compTurn (.ListComp elt [⟨tg,iter,[],0⟩] scope pos) 0 it acc env=(standAt iter.pos >>= fun _=>pyNext it >>= fun r=>match r with
   |none=>pure (.done .next)
   |some v=>letOwnedTupleGo tg it v >>= fun _=>assign tg env v >>= fun _=>(eval elt env >>= fun x=>call (.builtin "list.append") [acc,x] >>= fun _=>pure ()) >>= fun _=>again (.compLoop (.ListComp elt [⟨tg,iter,[],0⟩] scope pos) 0 it acc env)):=rfl
theorem Xj {elt tg iter:Expr}{scope:Scope}{pos:Pos}{it acc:Value}{env:Env}(I:Nat→Shared→Prop)
  (turn:∀n s,I n s→wpAny (model prog w) A (pyNext it) (fun r s1=>(r=none∧R (.ok .next) s1)∨∃v,r=some v∧wpAny (model prog w) A (letOwnedTupleGo tg it v) (fun _ s2=>wpAny (model prog w) A (assign tg env v) (fun _ s3=>
   wpAny (model prog w) A (eval elt env) (fun x s4=>wpAny (model prog w) A (call (.builtin "list.append") [acc,x]) (fun _ s5=>∃m,m<n∧I m s5) (fun _ _=>False) s4) (fun _ _=>False) s3) (fun _ _=>False) s2) (fun _ _=>False) s1) (fun _ _=>False) s)
  (n:Nat) (h:I n s):codeAny (model prog w) A (.compLoop (.ListComp elt [⟨tg,iter,[],0⟩] scope pos) 0 it acc env) R s:=by
 refine codeAny_loop rfl I (fun n s hI=>?_) n h
 show wpAny _ _ ((compTurn (.ListComp elt [⟨tg,iter,[],0⟩] scope pos) 0 it acc env).onRaise (fun x=>do noteFrame x env;theTreesLotGoes x)) _ _ s
 refine wpAny_noted ?_
 rw [Abx]
 refine wpAny_bind (wpAny_standAt (wpAny_bind (wpAny_mono (turn n s hI) (fun r s1 h1=>?_) fun _ _ z=>z.elim)))
 rcases h1 with ⟨rfl,h1⟩|⟨v,rfl,h1⟩
 ·exact wpAny_pure h1
 ·refine wpAny_bind (wpAny_mono h1 (fun _ s2 h2=>?_) fun _ _ z=>z.elim)
  refine wpAny_bind (wpAny_mono h2 (fun _ s3 h3=>?_) fun _ _ z=>z.elim)
  refine wpAny_bind (wpAny_bind (wpAny_mono h3 (fun x s4 h4=>?_) fun _ _ z=>z.elim))
  refine wpAny_bind (wpAny_mono h4 (fun _ s5 h5=>?_) fun _ _ z=>z.elim)
  exact wpAny_pure (wpAny_pure ⟨rfl,h5⟩)
end
abbrev G5 (X:Cx)(N:List Str)(s₀:Shared)(H₀:Hp)(env:Env)(fp:List Addr):Cx:=
 { X with N:=N,s₀:=s₀,H₀:=H₀,env:=env,outer:=X.stack,ex:=fp,fn:=fun _=>false,pn:=[],xe:=fun _ _=>False }
structure Cap (X:Cx)(sc:Scope)(cl:List (Str×Addr))(j:Nat)(y:Str):Prop where
 nm:X.N[j]? =some y
 ko:X.env.kindOf y=some .cell
 ki:sc.names.lookup y=some .cell
 cl:cl.lookup y=X.env.cells.lookup y
def capσ (js:List Nat)(σ:L2.St):L2.St:=js.map fun j=>(σ[j]?).join
@[irreducible] def Kq (J:It) (g:TG) (te:TE) (k:Nat) (js:List Nat) (σ:L2.St) (H1:Hp) (Q:VK):Prop:=∀D,H1 D=none→∃W:Nat→Nat→Hp→Prop,(∃m,W 0 m (upd H1 D (.lst [])))∧∀i m H,W i m H →
 (J.stop i H∧Q (.ref D) H)∨(J.go i H∧∀x H',J.yld i H x H'→g x (List.replicate k none++capσ js σ) H' fun σ2 H2=>σ2.drop k=capσ js σ∧te σ2 H2 fun v H3=>∃xs,H3 D=some (.lst xs)∧xs.length<sizeLine∧∃m',m'<m∧W (i+1) m' (upd H3 D (.lst (xs++[v]))))
def Xn (wi:TI)(g:TG)(te:TE)(k:Nat)(js:List Nat):TE:=fun σ H Q=>wi σ H fun J H1=>Kq J g te k js σ H1 Q
section
variable {X:Cx}
theorem Uz {pins:List (Addr×Obj)}{σ:L2.St}{H:Hp}{s:Shared}{N:List Str}{scope:Scope}{cl:List (Str×Addr)}{C:Addr}{fp:List Addr}(I:Ap X pins σ H s)(hk:scope.kind=.function)(hC:s.heap.objs.size≤C)
  (hcl:∀y c,cl.lookup y=some c→X.env.cells.lookup y=some c) (hhas:∀y,((relabel scope X.env).names.lookup y=some .cell∨(relabel scope X.env).names.lookup y=some .free)→∃c,cl.lookup y=some c)
  (hf:∀b∈fp,J3 X pins H b∧b<s.heap.objs.size):(G5 X N s H (compEnvC scope cl C X.env) fp).Ok where
 mod:=I.ok.mod
 kind:=hk
 glob:=I.ok.glob
 blt:=I.ok.blt
 above:=hC
 inj:=fun x y c e1 e2=>I.ok.inj x y c (hcl x c e1) (hcl y c e2)
 has:=fun x h=>hhas x h
 cab:=fun x c z=>absurd z (by simp)
 hd:=I.ok.hd
 frames:=I.ok.frames
 stk:=.inl rfl
 exf:=fun b hb=>⟨Nat.ne_of_lt (Nat.lt_of_lt_of_le (hf b hb).2 hC),fun x c e=>(hf b hb).1.2.2.2.2.1 x c (hcl x c e)⟩
 bs:=I.bs
 bsz:=Nat.le_trans I.ok.bsz I.sz
 noex:=fun b o e hb=>by
  rcases (hf b hb).1.2.2.2.1 with z|z
  ·exact I.ok.noex b o e z
  ·exact absurd (Nat.lt_of_lt_of_le (Heap.lt_size (I.ok.bs b o e).1) z) (Nat.lt_irrefl _)
 exfs:=fun b hb hm=>by
  rcases List.mem_cons.mp (I.stkSub b hm) with z|z
  ·exact (hf b hb).1.2.1 z
  ·exact (hf b hb).1.2.2.1 z
 funs:=I.stack
 frf:=I.stkFree
theorem Xa {elt iter tg:Expr}{scope:Scope}{pos:Pos}{wi:TI}{te:TE}{g:TG}{N:List Str}{cl:List (Str×Addr)}(k:Nat)(js:List Nat)(hi:PI X tg iter wi)
  (hg:∀C s H fp,PG (G5 X N s H (compEnvC scope cl C X.env) fp) tg g) (he:∀C s H fp,PE (G5 X N s H (compEnvC scope cl C X.env) fp) elt te) (hcalm:X.calm=true)
  (hclos:closureFor scope X.env=pure cl) (hkind:scope.kind=.function) (hcell:∀y∈scope.names,y.2≠.cell) (hnames:∀y∈scope.names,y.2=.local→scope.names.lookup y.1=some .local)
  (hcl:∀y c,cl.lookup y=some c→X.env.cells.lookup y=some c) (hhas:∀y,((relabel scope X.env).names.lookup y=some .cell∨(relabel scope X.env).names.lookup y=some .free)→∃c,cl.lookup y=some c)
  (hlen:N.length=k+js.length) (hcap:∀i j,js[i]? =some j→∃y,N[k+i]? =some y∧Cap X (relabel scope X.env) cl j y)
  (hs:∀x,foldedSetIterable iter X.env x=pure x) {pins:List (Addr×Obj)} {s:Shared} {σ:L2.St} {H:Hp} {Q:VK} (I:Ap X pins σ H s) (h:Xn wi g te k js σ H Q) {cpos:Pos} {use:Option (Value→Sem Unit)} {Qv:Value→Shared→Prop}
  (fin:∀(s6:Shared) (H5:Hp) (D C:Addr) (m:Str→Option Value),Ap X pins σ H5 s6→s6.heap.Ns C m→H5 C=none→X.s₀.heap.objs.size≤C→C≠X.env.locals→(∀x c,X.env.cells.lookup x=some c→c≠C)→(∀p∈X.pn++pins,p.1≠C)→Q (.ref D) H5 →
   compPost (model X.prog X.w) X.A X.xe use Qv (.ref D) C (.ok .next) s6) :
  wpAny (model X.prog X.w) X.A (comprehension (.ListComp elt [⟨tg,iter,[],0⟩] scope pos) scope X.env cpos (newList []) false (eval iter X.env) use) Qv X.xe s:=by
 refine wpAny_comprehension_free (use:=use) rfl hs hclos hkind hnames (Ba (hi pins s σ H _ I h) fun v s1 h1=>Ba h1 fun itv s2 h2=>?_)
 obtain ⟨it,fp,tn,J,H2,rfl,I2,T,st2,f2,h2⟩:=h2
 refine wpAny_newObj_type ?_
 have hD:H2 s2.heap.objs.size=none:=I2.hok.fresh (Nat.le_refl _)
 unfold Kq at h2
 obtain ⟨W,⟨m0,w0⟩,turn⟩:=h2 _ hD
 have I3:Ap X pins σ (upd H2 s2.heap.objs.size (.lst [])) { s2 with heap:=s2.heap.push { cls:=.type "list",dict:=none,data:=.seq ([]:List Value).toArray } } :=
  I2.laid (t':=s2.toks) (fun b u e=>Heap.get?_push_of_some _ e) (Nat.le_refl _) ⟨Nat.zero_le _,[],0,.nil,Heap.get?_push_size _ rfl⟩
 have hlt:∀b∈fp,b<s2.heap.objs.size:=fun b hb=>by
  obtain ⟨o,e,_⟩:=T.obj _ _ st2 b hb
  exact Heap.lt_size e
 have f3:∀b∈fp,J3 X pins (upd H2 s2.heap.objs.size (.lst [])) b:=fun b hb=>⟨by rw [Ak (Nat.ne_of_lt (hlt b hb))];exact (f2 b hb).1,(f2 b hb).2⟩
 have st3:tn 0 (s2.heap.push { cls:=.type "list",dict:=none,data:=.seq ([]:List Value).toArray }):=T.keep _ _ _ st2 fun b hb o e=>Heap.get?_push_of_some _ e
 have hlt3:∀b∈fp,b<(s2.heap.push { cls:=.type "list",dict:=none,data:=.seq ([]:List Value).toArray }).objs.size:=fun b hb=>Nat.lt_of_lt_of_le (hlt b hb) (by rw [Heap.size_push];exact Nat.le_succ _)
 generalize hs3:({ s2 with heap:=s2.heap.push { cls:=.type "list",dict:=none,data:=.seq ([]:List Value).toArray } }:Shared)=s3 at I3
 have eh:s3.heap=s2.heap.push { cls:=.type "list",dict:=none,data:=.seq ([]:List Value).toArray }:=by rw [←hs3]
 rw [←eh] at st3 hlt3
 generalize hDD:s2.heap.objs.size=D at *
 generalize hH3:upd H2 D (.lst [])=H3 at *
 clear hs3 eh
 refine wpAny_newFunctionEnv (s:=s3) hcell (by intro y hy;simp at hy) (fun h4 n4 sb4=>?_) hkind
 have Ok:=Uz (N:=N) (C:=s3.heap.objs.size) I3 hkind (Nat.le_refl _) hcl hhas fun b hb=>⟨f3 b hb,hlt3 b hb⟩
 show codeAny _ _ (.compStart (.ListComp elt [⟨tg,iter,[],0⟩] scope pos) 0 (.ref it) (.ref D) (compEnvC scope cl s3.heap.objs.size X.env)) _ _
 generalize hC:s3.heap.objs.size=C at *
 have old:∀b o,s3.heap.get? b=some o→h4.get? b=some o:=fun b o e=>sb4.extBut b o (by rw [←hC];exact Nat.ne_of_lt (Heap.lt_size e)) (Heap.get?_push_of_some _ e)
 have fresh:H3 C=none:=I3.hok.fresh (by rw [hC];exact Nat.le_refl _)
 have hcapl:∀{i:Nat} {x:Str} {v:V},N[i]? =some x→(List.replicate k none++capσ js σ)[i]? =some (some v)→∃u,L2.RelV v u∧Aen (compEnvC scope cl C X.env) h4 (fun _=>none) x u:=by
  intro i x v e1 e2
  by_cases hik:i<k
  ·rw [List.getElem?_append_left (by simpa using hik)] at e2
   rw [List.getElem?_replicate] at e2
   simp [hik] at e2
  ·rw [List.getElem?_append_right (by simpa using Nat.le_of_not_lt hik),List.length_replicate] at e2
   unfold capσ at e2
   rw [List.getElem?_map] at e2
   cases ej:js[i-k]? with
   |none=>
    rw [ej] at e2
    cases e2
   | some j=>
    rw [ej] at e2
    have e2:(σ[j]?).join=some v:=Option.some.inj e2
    obtain ⟨y,hy,cp⟩:=hcap _ _ ej
    rw [show k+(i-k)=i by omega,e1] at hy
    cases hy
    obtain ⟨m,_,hl⟩:=I3.loc
    have e3:σ[j]? =some (some v):=by
     cases q:σ[j]? with
     |none=>
      rw [q] at e2
      cases e2
     |some o=>
      rw [q] at e2
      have:o=some v:=e2
      rw [this]
    obtain ⟨u,ru,lk⟩:=hl j x v cp.nm e3 (.inr (.inl cp.ko))
    refine ⟨u,ru,?_⟩
    rcases lk with ⟨z,_⟩|⟨_,c,hc,z⟩
    ·rw [cp.ko] at z
     cases z
    ·refine .inr ⟨.inl cp.ki,c,by rw [←hc];exact cp.cl,?_⟩
     obtain ⟨o,e,d⟩:=z
     exact ⟨o,old _ _ e,d⟩
 have I4:Ap (G5 X N s3 H3 (compEnvC scope cl C X.env) fp) [] (List.replicate k none++capσ js σ) H3 { s3 with heap:=h4,toks:=s3.toks+([]:List (Str×Value)).length }:=by
  refine ⟨Ok,rfl,I3.bare,Un.kept old,⟨_,n4,fun i x v e1 e2 e3=>?_⟩,fun x c e=>?_,fresh,fun x c e=>I3.freeC x c (hcl x c e),fun p hp=>absurd hp (by simp),I3.hok.kept old,?_⟩
  ·obtain ⟨u,ru,lk⟩:=hcapl e1 e2
   refine ⟨u,ru,?_⟩
   rcases lk with ⟨z,q⟩|q
   ·cases q
   ·exact .inr q
  ·obtain ⟨v,o,e1,d⟩:=I3.cell x c (hcl x c e)
   exact ⟨v,o,old _ _ e1,d⟩
  ·simp [capσ,hlen]
 have fp4:∀{H':Hp},(∀b∈fp,H' b=none)→∀b∈fp,J3 (G5 X N s3 H3 (compEnvC scope cl C X.env) fp) [] H' b:=fun hn b hb=>
  ⟨hn b hb,(Ok.exf b hb).1,Ok.exfs b hb,.inl hb,fun x c e=>(Ok.exf b hb).2 x c e,fun p hp=>absurd hp (by simp)⟩
 have st4:tn 0 h4:=T.keep _ _ _ st3 fun b hb o e=>old b o e
 have run:∀s4:Shared,s4={ s3 with heap:=h4,toks:=s3.toks+([]:List (Str×Value)).length } →
   codeAny (model X.prog X.w) X.A (.compLoop (.ListComp elt [⟨tg,iter,[],0⟩] scope pos) 0 (.ref it) (.ref D) (compEnvC scope cl C X.env)) (compPost (model X.prog X.w) X.A X.xe use Qv (.ref D) C) s4:=by
  rintro s4 rfl
  refine Xj (fun n s'=>∃i H' σ',Ap (G5 X N s3 H3 (compEnvC scope cl C X.env) fp) [] σ' H' s'∧(∀j:Nat,∀v,(List.replicate k none++capσ js σ)[j]? =some (some v)→σ'[j]? =some (some v))∧tn i s'.heap∧(∀b∈fp,H' b=none)∧W i n H') ?_ m0
   ⟨0,H3,_,I4,fun _ _ z=>z,st4,fun b hb=>(f3 b hb).1,w0⟩
  rintro n s5 ⟨i,H5,σ5,I5,cap5,st5,fr5,w5⟩
  have I5':=I5.weak (σ':=List.replicate k none++capσ js σ) (by rw [I5.len];simp [capσ,hlen]) cap5
  rcases turn i n H5 w5 with ⟨stop,q⟩|⟨go,step⟩
  ·refine Ba (T.done (G5 X N s3 H3 (compEnvC scope cl C X.env) fp) rfl rfl rfl hcalm i [] s5 σ5 H5 _ I5 (fp4 fr5) st5 stop) fun r s6 ⟨hr,I6⟩=>.inl ⟨hr,?_⟩
   obtain ⟨m6,n6,_⟩:=I6.loc
   have hCf:H5 C=none:=I6.free
   have u6:=I6.base
   have uC:Un (Ie X.stack) fp H3 H5 s3.heap s6.heap:=⟨u6.keep,u6.slot,u6.free,u6.there,u6.tups,u6.frzs,u6.tbls⟩
   have I7:Ap X pins σ H5 s6:=I3.call' (s':=s6) I6.os uC I6.hok I6.bare fun b hb=>⟨(f3 b hb).2.2.2.1,(f3 b hb).2.1,(f3 b hb).2.2.2.2.1,(f3 b hb).2.2.2.2.2⟩
   have lt3:∀b o,s3.heap.get? b=some o→b≠C:=fun b o e=>by rw [←hC];exact Nat.ne_of_lt (Heap.lt_size e)
   refine fin s6 H5 D C m6 I7 n6 hCf (by rw [←hC];exact I3.sz) (by rw [←hC];exact Nat.ne_of_gt I3.lt) (fun x c e=>?_) (fun p hp=>lt3 p.1 p.2 (I3.pin p hp).1) q
   obtain ⟨v,o,e1,_⟩:=I3.cell x c e
   exact lt3 c o e1
  ·refine Ba (T.item (G5 X N s3 H3 (compEnvC scope cl C X.env) fp) rfl rfl rfl hcalm i [] s5 _ H5 _ I5' (fp4 fr5) st5 go) fun r s6 ⟨u,hr,h6⟩=>.inr ⟨u,hr,?_⟩
   refine Ba h6 fun _ s7 ⟨x,H7,I7,r7,y7,st7,fr7⟩=>?_
   have I7':=I7.pinned (fp4 fr7) (T.obj _ _ st7)
   refine Ba (hg C s3 H3 fp _ s7 _ H7 x u _ I7' r7 (step x H7 y7)) fun _ s8 ⟨σ8,H8,I8,d8,q8⟩=>?_
   refine Ba (he C s3 H3 fp _ s8 σ8 H8 _ I8 q8) fun vv s9 ⟨vx,H9,I9,r9,xs,hx9,hz9,m',hm',w9⟩=>?_
   obtain ⟨z9,its,n9,rl,e9⟩:=(show A4 X.prog X.w H9 s9.heap D (.lst xs) from I9.hok D _ hx9)
   have app:=D5 (X:=G5 X N s3 H3 (compEnvC scope cl C X.env) fp) _ s9 σ8 H9 (.ref D) [vx] (.ref D) [vv] (fun _ H'=>H'=upd H9 D (.lst (xs++[vx]))) I9 rfl (.cons r9 .nil) ⟨D,xs,vx,rfl,rfl,hx9,hz9,rfl⟩
   refine Ba app fun _ s10 ⟨_,H10,I10,_,e10⟩=>?_
   subst e10
   refine ⟨m',hm',i+1,_,σ8,I10.unpinned (pins:=[]),?_,T.keep _ _ _ st7 fun b hb o e=>(I10.pin (b,o) (List.mem_append_right _ (List.mem_append_right _ (Cd hb e)))).1,fun b hb=>?_,w9⟩
   ·intro j v e
    by_cases hjk:j<k
    ·rw [List.getElem?_append_left (by simpa using hjk),List.getElem?_replicate] at e
     simp [hjk] at e
    ·rw [List.getElem?_append_right (by simpa using Nat.le_of_not_lt hjk),List.length_replicate,←d8,List.getElem?_drop] at e
     rw [show k+(j-k)=j by omega] at e
     exact e
   ·obtain ⟨o,e,d⟩:=T.obj _ _ st7 b hb
    exact (I10.pin (b,o) (List.mem_append_right _ (List.mem_append_right _ (Cd hb e)))).2.1
 exact codeAny_compStart_list (run _ rfl) (T.self X.A 0 _ _ _ st4 (run _ rfl))
theorem Aeh {elt iter tg:Expr}{scope:Scope}{pos:Pos}{wi:TI}{te:TE}{g:TG}{N:List Str}{cl:List (Str×Addr)}(k:Nat)(js:List Nat)(hi:PI X tg iter wi)
  (hg:∀C s H fp,PG (G5 X N s H (compEnvC scope cl C X.env) fp) tg g) (he:∀C s H fp,PE (G5 X N s H (compEnvC scope cl C X.env) fp) elt te) (hcalm:X.calm=true)
  (hclos:closureFor scope X.env=pure cl) (hkind:scope.kind=.function) (hcell:∀y∈scope.names,y.2≠.cell) (hnames:∀y∈scope.names,y.2=.local→scope.names.lookup y.1=some .local)
  (hcl:∀y c,cl.lookup y=some c→X.env.cells.lookup y=some c) (hhas:∀y,((relabel scope X.env).names.lookup y=some .cell∨(relabel scope X.env).names.lookup y=some .free)→∃c,cl.lookup y=some c)
  (hlen:N.length=k+js.length) (hcap:∀i j,js[i]? =some j→∃y,N[k+i]? =some y∧Cap X (relabel scope X.env) cl j y)
  (hs:∀x,foldedSetIterable iter X.env x=pure x:=by intro _;rfl):PE X (.ListComp elt [⟨tg,iter,[],0⟩] scope pos) (Xn wi g te k js):=by
 intro pins s σ H Q I h
 rw [eval_ListComp]
 refine Xa k js hi hg he hcalm hclos hkind hcell hnames hcl hhas hlen hcap hs I h fun s6 H5 D C m I6 n6 z1 z2 z3 z4 z5 q=>⟨m,n6,fun h7 sb7=>⟨.ref D,H5,?_,rfl,q⟩⟩
 exact I6.turned (t':=s6.toks) (fun b o hb e=>(sb7.2 b hb).trans e) z1 z3.symm.symm (.inr z2) z4 z5
def No (X:Cx)(sc:Scope)(cl:List (Str×Addr)):List Str→List Nat→Prop
 |y::ys,j::js=>Cap X sc cl j y∧No X sc cl ys js
 |[],[]=>True
 |_,_=>False
theorem No.len {sc:Scope}{cl:List (Str×Addr)}:∀{ys:List Str} {js:List Nat},No X sc cl ys js→ys.length=js.length
 |[],[],_=>rfl
 |_::_,_::_,h=>congrArg (· + 1) (No.len h.2)
 |[],_::_,h=>h.elim
 |_::_,[],h=>h.elim
theorem No.at {sc:Scope}{cl:List (Str×Addr)}:∀{ys:List Str} {js:List Nat},No X sc cl ys js→∀(i j:Nat),js[i]? =some j→∃y,ys[i]? =some y∧Cap X sc cl j y
 |[],[],_,i,j,e=>by simp at e
 |y::ys,j::js,h,0,j',e=>by
  cases e
  exact ⟨y,rfl,h.1⟩
 |y::ys,j::js,h,i+1,j',e=>No.at h.2 i j' (by simpa using e)
 |[],_::_,h,_,_,_=>h.elim
 |_::_,[],h,_,_,_=>h.elim
def Ma (cells:List (Str×Addr)):List (Str×Addr)→Prop
 |[]=>True
 |(y,c)::r=>cells.lookup y=some c∧Ma cells r
theorem Ma.at {cells:List (Str×Addr)}:∀{cl:List (Str×Addr)},Ma cells cl→∀y c,cl.lookup y=some c→cells.lookup y=some c
 |[],_,y,c,e=>by simp at e
 | (z,d)::r,h,y,c,e=>by
  rw [List.lookup_cons] at e
  cases q:y==z with
  |true=>
   rw [q] at e
   cases e
   rw [eq_of_beq q]
   exact h.1
  |false=>
   rw [q] at e
   exact Ma.at h.2 y c e
theorem Fy {y:Str}:∀{cl:List (Str×Addr)},(cl.map (·.1)).contains y=true→∃c,cl.lookup y=some c
 |[],h=>by simp at h
 | (z,d)::r,h=>by
  rw [List.lookup_cons]
  cases q:y==z with
  |true=>exact ⟨d,rfl⟩
  |false=>
   refine Fy (cl:=r) ?_
   rw [List.map_cons,List.contains_cons,q,Bool.false_or] at h
   exact h
theorem Bx {env:Env}{y:Str}:∀{names:List (Str×NameKind)} {k:NameKind},(names.map fun (n,k)=>if (k==NameKind.free&&env.scope.kind==.function&&env.kindOf n==some .cell) then (n,NameKind.cell) else (n,k)).lookup y=some k →
  (k=.cell∨k=.free)→∃z∈names,z.1=y∧(z.2=.free∨z.2=.cell)
 |[],_,h,_=>by simp at h
 | (n,kd)::r,k,h,hk=>by
  rw [List.map_cons] at h
  by_cases hc:(kd==NameKind.free&&env.scope.kind==.function&&env.kindOf n==some .cell)=true
  ·rw [show (match (n,kd) with|(n,k)=>if (k==NameKind.free&&env.scope.kind==.function&&env.kindOf n==some .cell)=true then (n,NameKind.cell) else (n,k))=(n,NameKind.cell) from if_pos hc,List.lookup_cons] at h
   cases q:y==n with
   |true=>
    rw [Bool.and_eq_true,Bool.and_eq_true] at hc
    exact ⟨(n,kd),List.mem_cons_self,(eq_of_beq q).symm,.inl (eq_of_beq hc.1.1)⟩
   |false=>
    rw [q] at h
    obtain ⟨z,hz,r1⟩:=Bx (names:=r) h hk
    exact ⟨z,List.mem_cons_of_mem _ hz,r1⟩
  ·rw [show (match (n,kd) with|(n,k)=>if (k==NameKind.free&&env.scope.kind==.function&&env.kindOf n==some .cell)=true then (n,NameKind.cell) else (n,k))=(n,kd) from if_neg hc,List.lookup_cons] at h
   cases q:y==n with
   |true=>
    rw [q] at h
    cases h
    exact ⟨(n,kd),List.mem_cons_self,(eq_of_beq q).symm,hk.symm⟩
   |false=>
    rw [q] at h
    obtain ⟨z,hz,r1⟩:=Bx (names:=r) h hk
    exact ⟨z,List.mem_cons_of_mem _ hz,r1⟩
theorem Fw {elt iter tg:Expr}{scope:Scope}{pos:Pos}{wi:TI}{te:TE}{g:TG}{cl:List (Str×Addr)}(own ys:List Str)(js:List Nat)(hclos:closureFor scope X.env=pure cl)(hi:PI X tg iter wi)
  (hg:∀C s H fp,PG (G5 X (own++ys) s H (compEnvC scope cl C X.env) fp) tg g) (he:∀C s H fp,PE (G5 X (own++ys) s H (compEnvC scope cl C X.env) fp) elt te) (hcalm:X.calm=true) (hkind:scope.kind=.function)
  (hcell:(scope.names.all fun y=>y.2 != .cell)=true) (hnames:(scope.names.all fun y=>y.2 != .local||scope.names.lookup y.1==some .local)=true) (hfr:(scope.names.all fun y=>y.2 != .free||(cl.map (·.1)).contains y.1)=true)
  (hcl:Ma X.env.cells cl) (hcap:No X (relabel scope X.env) cl ys js) (hs:∀x,foldedSetIterable iter X.env x=pure x:=by intro _;rfl) :
  PE X (.ListComp elt [⟨tg,iter,[],0⟩] scope pos) (Xn wi g te own.length js):=by
 rw [List.all_eq_true] at hcell hnames hfr
 have hc:∀y∈scope.names,y.2≠.cell:=fun y hy z=>by
  have:=hcell y hy
  rw [z] at this
  cases this
 refine Aeh own.length js hi hg he hcalm hclos hkind hc (fun y hy z=>?_) hcl.at (fun y h=>?_) (by rw [List.length_append,hcap.len]) (fun i j e=>?_) hs
 ·have:=hnames y hy
  rw [z] at this
  simpa using this
 ·obtain ⟨z,hz,rfl,hk⟩:∃z∈scope.names,z.1=y∧(z.2=.free∨z.2=.cell):=by
   rcases h with h|h
   ·exact Bx h (.inl rfl)
   ·exact Bx h (.inr rfl)
  rcases hk with hk|hk
  ·have:=hfr z hz
   rw [hk] at this
   exact Fy (by simpa using this)
  ·exact absurd hk (hc z hz)
 ·obtain ⟨y,h1,h2⟩:=hcap.at i j e
  exact ⟨y,by rw [List.getElem?_append_right (Nat.le_add_right _ _),Nat.add_sub_cancel_left];exact h1,h2⟩
theorem Zc {lo:Int}{n:Nat}{g:TG}{te:TE}{k:Nat}{js:List Nat}{σ:L2.St}{H1:Hp}{Q:VK}(f:Nat→V)(hz:n≤1000)
  (hs:∀i H2,i<n→Ai H1 H2→∀P:VK,P (f i) H2→g (.int (lo+i)) (List.replicate k none++capσ js σ) H2 fun σ2 H3=>σ2.drop k=capσ js σ∧te σ2 H3 P)
  (hq:∀D H',Ai H1 H'→H' D=some (.lst ((List.range n).map f))→Q (.ref D) H') :
  Kq (Itr lo n) g te k js σ H1 Q:=by
 unfold Kq
 intro D hD
 refine ⟨fun i m H=>m=n-i∧i≤n∧H=upd H1 D (.lst ((List.range i).map f)),⟨n,by simp,Nat.zero_le _,rfl⟩,?_⟩
 rintro i m H ⟨rfl,hi,rfl⟩
 by_cases hlt:i<n
 ·refine .inr ⟨hlt,fun x H' y=>?_⟩
  obtain ⟨e1,e2⟩:=y
  subst e1 e2
  refine hs i _ hlt (Al hD) _ ⟨_,Ad,?_,n-(i+1),by omega,rfl,hlt,?_⟩
  ·rw [List.length_map,List.length_range]
   exact Nat.lt_of_lt_of_le hlt (Nat.le_trans hz (by decide))
  ·rw [Vm,List.range_succ,List.map_append]
   rfl
 ·have e:i=n:=by omega
  subst e
  exact .inl ⟨Nat.le_refl _,hq D _ (Al hD) Ad⟩
end
end Lw
end
section
namespace Lw
open PySem PySem.Spec PyProof.Rows L2
section
variable {X:Cx}{pos p2 p3 p4:Pos}{e:Expr}{te:TE}
def Ak7:V→Option Int→Option Int→Hp→VK→Prop:=fun x lo hi H Q=>match x with
 |.str z=>z.length≤sizeLine∧Q (.str (Txt.slice z lo hi)) H
 |_=>False
theorem Yj:SlR X Ak7:=by
 intro pins s σ H x v vl vu lo hi sl Q I rx hs pl pu h
 cases x<;>first
  |exact False.elim h
  | (obtain ⟨hz,q⟩:=h
     obtain ⟨t,rfl⟩:=rx
     refine ⟨"str",_,F.slot_str_getitem.lookup,typeIs_str _ _ _,?_⟩
     cases pl<;>cases pu
     ·exact wpAny_getItem_str_slice (l:=none) (u:=none) (st:=none) hs rfl (post_val_or_str ⟨Nat.le_trans (Txt.slice_le _ _ _) hz,fun t' k=>⟨.str _,H,I.tok _,⟨_,rfl⟩,q⟩⟩)
     ·exact wpAny_getItem_str_slice (l:=none) (u:=some (_,_)) (st:=none) hs rfl (post_val_or_str ⟨Nat.le_trans (Txt.slice_le _ _ _) hz,fun t' k=>⟨.str _,H,I.tok _,⟨_,rfl⟩,q⟩⟩)
     ·exact wpAny_getItem_str_slice (l:=some (_,_)) (u:=none) (st:=none) hs rfl (post_val_or_str ⟨Nat.le_trans (Txt.slice_le _ _ _) hz,fun t' k=>⟨.str _,H,I.tok _,⟨_,rfl⟩,q⟩⟩)
     ·exact wpAny_getItem_str_slice (l:=some (_,_)) (u:=some (_,_)) (st:=none) hs rfl (post_val_or_str ⟨Nat.le_trans (Txt.slice_le _ _ _) hz,fun t' k=>⟨.str _,H,I.tok _,⟨_,rfl⟩,q⟩⟩))
def Ahn:R2:=fun x y H Q=>match x,y with
 |.str i,.str j=>i.length+j.length≤sizeLine∧Q (.str (i++j)) H
 |_,_=>False
theorem Z4:C6 X (binaryOp .Add) Ahn:=by
 intro pins s σ H x y v u Q I rx ry q
 cases x<;>cases y<;>first
  |exact False.elim q
  |exact Uf _ _ _ _ _ _ _ _ _ I rx ry ⟨_,_,rfl,rfl,q.1,q.2⟩
def Ak1:R2:=fun x y H Q=>match x,y with
 |.str z,.int i=>∃c,z.length≤sizeLine∧Qt z.cps.toList i=some c∧Q (.str ⟨#[c]⟩) H
 |_,_=>False
theorem Adj:IxR X Ak1:=by
 intro value slice pins s σ H x y v u Q I rx ry h hs
 cases x<;>cases y<;>first
  |exact False.elim h
  | (obtain ⟨c,h1,h2,q⟩:=h
     exact Aet value slice pins s σ H _ _ v u Q I rx ry ⟨_,_,c,rfl,rfl,h1,h2,q⟩ hs)
theorem Qh:∀{ys:List Str} {us:List Value},Az (ys.map V.str) us→StrsAre us ys
 |[],_,r=>by
  cases r
  exact .nil
 | y::ys,_,r=>by
  cases r with
  |cons r1 r2=>
   obtain ⟨t,rfl⟩:=r1
   exact .cons y t (Qh r2)
def Adn (K:PySem.W.Frag):V→List V→Hp→VK→Prop:=fun x xs H Q=>match x,xs with
 |.str sep,[.ref p]=>∃ys:List Str,A0 K H p (ys.map V.str)∧(ys.map (·.length)).sum+ys.length*sep.length≤16777216∧Q (.str (Txt.join sep ys)) H
 |_,_=>False
theorem Ae1:MtR X "str.join" (Adn X.K):=by
 intro pins s σ H x xs v us Q I rx rs h
 match x,xs,h with
 |.str sep,[.ref p],⟨ys,h1,h2,q⟩=>
  obtain ⟨t,rfl⟩:=rx
  obtain ⟨u,rfl,r1⟩:=Jh rs
  cases r1
  obtain ⟨its,r,pl,_⟩:=I.list h1
  exact PyProof.Rows.join_list pl.isList (Qh r) h2 fun t' k=>⟨.str _,H,I.tok _,⟨_,rfl⟩,q⟩
theorem Ae6 {o:Expr}{to ta:_}{name:Str}{apos cpos:Pos}(ho:PE X o to)(ha:PA X [e] ta)(hbase:attributeBase o "join" X.env (eval o X.env)=eval o X.env:=by rfl)
  (hfew:((backTo cpos (starEach [e] X.env)).all (fun x=>!x.1)&&(backToKw cpos (keywordEach [] X.env)).all (fun x=>x.1.isSome)&&decide ([e].length+([]:List Keyword).length+(if ([]:List Keyword).isEmpty then 0 else 1)<30))=true:=by rfl)
  (hline:(apos.endLine==cpos.line)=true:=by rfl) (hs:starEach [e] X.env=(false,eval e X.env)::starEach [] X.env:=by rfl) (hplain:(backTo cpos (starEach [] X.env)).any (·.1)=false:=by rfl) :
  PE X (.Call (.Attribute o "join" apos) [e] [] cpos) (tBM X.K "str" (Adn X.K) to ta):=Kz F.plainAttrs_str F.slot_str_join F.type_str_join Ae1 ho ha hbase hfew hline hs hplain
def Akv (K:PySem.W.Frag):R2:=fun x y H Q=>match y with
 |.ref p=>∃xs,(A0 K H p xs∨Ed K H p xs)∧E7 x=true∧xs.all E7=true∧Q (.bl (inV x xs)) H
 |_=>False
theorem Ajb:C6 X (compareOp .In) (Akv X.K):=by
 intro pins s σ H x y v u Q I rx ry q
 cases y<;>first
  |exact False.elim q
  | (obtain ⟨xs,h1,h2,h3,q⟩:=q
     exact Wj _ _ _ _ _ _ _ _ _ I rx ry ⟨_,xs,rfl,h1,h2,h3,q⟩)
end
end Lw
end
section
namespace Lw
open PySem PySem.Spec PyProof.Rows L2
def co (x:Str):List Nat:=x.cps.toList
theorem Lr (x:Str):(co x).length=x.length:=by simp [co,Str.length]
theorem Mj (x y:Str):co (x++y)=co x++co y:=by
 show (x.cps++y.cps).toList=x.cps.toList++y.cps.toList
 rw [Array.toList_append]
theorem Agw (c:Nat):co ⟨#[c]⟩=[c]:=rfl
theorem Ab7 (x y:Str):(x++y).length=x.length+y.length:=by
 rw [←Lr,Mj,List.length_append,Lr,Lr]
theorem Acl (sep:Str):∀ys:List Str,co (Txt.join sep ys)=co (Str.join sep ys):=fun ys=>by
 show co (Builtin.Str.glued sep ys)=_
 rw [StrLaws.glued_eq_join]
theorem Aid:∀ys:List Str,co (Txt.join (Str.ofString "") ys)=(ys.map co).flatten:=by
 intro ys
 rw [Acl]
 induction ys with
 |nil=>rfl
 | cons x r ih=>
  cases r with
  |nil=>simp [Str.join]
  |cons y r=>
   show co (x++Str.ofString ""++Str.join (Str.ofString "") (y::r))=_
   have e:co (Str.ofString "")=[]:=by decide +kernel
   rw [Mj,Mj,ih,e,List.append_nil]
   rfl
theorem Acs (a b:Nat):sliceRange (a:Int) (b:Int) 1=(List.range (b-a)).map (fun k=>a+k):=by
 unfold sliceRange
 simp only [show ((1:Int)>0)=True from by simp,if_true]
 by_cases h:(a:Int)<b
 ·have e3:(((b:Int)-a+1-1) / 1).toNat=b-a:=by omega
  simp only [h,if_true,e3]
  refine List.map_congr_left fun k _=>?_
  omega
 ·have:b-a=0:=by omega
  simp [h,this]
theorem Ir (n d:Nat)(i:Int):max (0:Int) (min (if i<0 then i+(n:Int) else i) (n:Int))=((HT.sIx n d (some i):Nat):Int):=by
 show _=(((if i<0 then (i+(n:Int)).toNat else min i.toNat n):Nat):Int)
 by_cases h:i<0
 ·simp only [if_pos h];omega
 ·simp only [if_neg h];omega
theorem Abs (lo hi:Option Int)(n:Nat):Builtin.Str.strSliceIndices lo hi 1 n=(List.range (HT.sIx n n hi-HT.sIx n 0 lo)).map (fun k=>HT.sIx n 0 lo+k):=by
 rw [←Acs]
 unfold Builtin.Str.strSliceIndices
 simp only [show ((1:Int)>0)=True from by simp,if_true]
 cases lo with
 | none=>
  cases hi with
  |none=>rfl
  |some j=>
   show sliceRange 0 (max (0:Int) (min (if j<0 then j+(n:Int) else j) (n:Int))) 1=_
   rw [Ir n n j]
   rfl
 | some i=>
  cases hi with
  |none=>
   show sliceRange (max (0:Int) (min (if i<0 then i+(n:Int) else i) (n:Int))) (n:Int) 1=_
   rw [Ir n 0 i]
   rfl
  |some j=>
   show sliceRange (max (0:Int) (min (if i<0 then i+(n:Int) else i) (n:Int))) (max (0:Int) (min (if j<0 then j+(n:Int) else j) (n:Int))) 1=_
   rw [Ir n 0 i,Ir n n j]
theorem Sk (x:Str)(lo hi:Option Int):co (Txt.slice x lo hi)=((co x).drop (HT.sIx x.length 0 lo)).take (HT.sIx x.length x.length hi-HT.sIx x.length 0 lo):=by
 have ha:=HT.sIx_le x.length 0 (Nat.zero_le _) lo
 have hb:=HT.sIx_le x.length x.length (Nat.le_refl _) hi
 have hl:=Lr x
 unfold Txt.slice
 rw [Abs]
 generalize HT.sIx x.length 0 lo=a at *
 generalize HT.sIx x.length x.length hi=b at *
 split
 ·rename_i h
  have h2:b-a=x.length:=by simpa using h
  have a0:a=0:=by omega
  subst a0
  rw [List.drop_zero,List.take_of_length_le (by omega)]
 ·have p:=StrLaws.picks (co x) (b-a) a (by omega)
  rw [←p]
  show (List.filterMap _ _).toArray.toList=_
  rw [List.toList_toArray]
  congr 1
  funext k
  show x.cps[k]? =x.cps.toList[k]?
  rw [Array.getElem?_toList]
theorem Aip {x:Str}{j:Nat}(h:j≤x.length):co (Txt.slice x none (some (j:Int)))=(co x).take j:=by
 rw [Sk,HT.sIx_none,HT.sIx_nat,Nat.min_eq_left h,List.drop_zero,Nat.sub_zero]
theorem Ag1 {x:Str}{i j:Nat}(h:i≤x.length)(h':j≤x.length):co (Txt.slice x (some (i:Int)) (some (j:Int)))=((co x).drop i).take (j-i):=by
 rw [Sk,HT.sIx_nat,HT.sIx_nat,Nat.min_eq_left h,Nat.min_eq_left h']
def abc:Str:=Str.ofString "abcdefghijklmnopqrstuvwxyz"
def lt (n:Int):Nat:=97+(n % 26).toNat
structure Nm (x:Str):Prop where
 len1:1≤(co x).length
 len8:(co x).length≤8
 abc:∀c∈co x,97≤c∧c<123
theorem Ah6 {x:Str}(h:∀c∈co x,c<1114112):PyData.strOk x=true:=by
 unfold PyData.strOk
 rw [←Array.all_toList,List.all_eq_true]
 exact fun c hc=>decide_eq_true (h c hc)
end Lw
end
section
set_option autoImplicit false
namespace Lw
open PySem PySem.Spec PyProof.Rows L2
def vB:List Value:=[.type "ValueError",.type "Exception",.type "BaseException",.type "object"]
structure G3 (K:PySem.W.Frag)(C:Addr):Prop where
 nw:PySem.W.excIn K C vB "ValueError.__new__"=true
 ga:PySem.W.findIn K (.ref C) "__getattribute__"=some (some (.builtin "BaseException.__getattribute__"))
 gn:PySem.W.findIn K (.ref C) "__getattr__"=some none
 cl:PySem.W.findIn K (.ref C) "__class__"=some (some (.builtin "object.__class__"))
 mo:PySem.W.mroIn K C (.type "object")=some true
 mb:PySem.W.mroIn K C (.type "BaseException")=some true
theorem Ac7 {K:PySem.W.Frag}{h:Heap}{mg:Str→Option Value}{x:Str}{C:Addr}{bmB:List Value}{newId:String}(X:K.In h)(b:mg x=some (.ref C))(q:PySem.W.excIn K C bmB newId=true):OwnCls x C bmB newId mg h:=by
 refine ⟨b,?_⟩
 unfold PySem.W.excIn at q
 split at q
 ·rename_i d0 cd sl lk
  split at q
  ·rename_i C' bm a0 a1 a2 a3 n a5 hm hs
   simp only [Bool.and_eq_true,beq_iff_eq,Bool.not_eq_true'] at q
   obtain ⟨⟨⟨⟨⟨e1,e2⟩,hdel⟩,ht⟩,hok⟩,hni⟩:=q
   subst e1 e2
   obtain ⟨nm,bs,mro,ns,qn,hd,sn,sub,ab,col,del⟩:=cd
   dsimp only at hm hdel hok hni
   subst hm hdel
   have e:sl=#[a0,a1,a2,a3,some (.builtin n),a5]:=by
    obtain ⟨l⟩:=sl
    simp only at hs
    rw [hs]
   subst e
   have N0:h.isNs ns=true:=PySem.W.isNs_of_in X hok
   exact ⟨bm,ns,nm,qn,bs,hd,sn,sub,ab,col,d0,a0,a1,a2,a3,a5,_,X _ _ lk,.of_isNs N0,PySem.W.nsMap_none_of_in X hok hni,PySem.W.tail_of_in X ht⟩
  ·cases q
 ·cases q
theorem Tv {K:PySem.W.Frag}{C:Addr}{bmB:List Value}{newId:String}(q:PySem.W.excIn K C bmB newId=true):∃dd cd sl,K.lookup C=some ⟨.type "type",dd,.cls cd,sl⟩:=by
 unfold PySem.W.excIn at q
 split at q
 ·rename_i d0 cd sl lk
  exact ⟨_,_,_,lk⟩
 ·cases q
def Aez (E:XK)(cls:Value):TS:=fun _ _ H=>E cls none H
section
variable {P:Program}{w:World}{K:PySem.W.Frag}{mg:Str→Option Value}{base:Heap}{N:List Str}{qual:Str}{scope:Scope}{f:Addr}{cd:Value}{A:Around}{outer:List Env}{s₀:Shared}{H₀:Hp}{E:XK}
theorem Dm {x:Str}{C:Addr}{np cpos pos p:Pos}{txt:Str}{j:Nat}(hb:mg x=some (.ref C))(c:G3 K C)(hg:Gl (Dh (F9 P w) P w K mg base N qual scope f cd A outer s₀ H₀ E) x)(hd:(x==("__debug__":Str))=false:=by decide) :
  PS (Dh (F9 P w) P w K mg base N qual scope f cd A outer s₀ H₀ E) (.Raise (some (.Call (.Name x np) [.Constant (.str txt) j p] [] cpos)) none pos) (Aez E (.ref C)):=by
 intro pins s σ H D I h
 have O:=Ac7 (h:=s.heap) I.kIn hb c.nw
 obtain ⟨tl,ns,nm,q,bs,hdct,sn,sub,ab,col,dd,k0,k1,k2,k3,k5,mN,hC,hN,hni,T⟩:=O.obj
 have FB:=PySem.F.excBase_ValueError
 refine wpAny_Raise_call_subT (C:=C) (nm:=nm) (q:=q) (N:=ns) (bs:=bs) (bm:=tl) (hdct:=hdct) (sn:=sn) (sub:=sub) (ab:=ab) (col:=col) (dd:=dd) (k0:=k0) (k1:=k1) (k2:=k2) (k3:=k3) (k5:=k5)
  (mN:=mN) FB (T.hasType FB.hasBase) (I.ok.hd rfl) rfl hni (Ip I hg hb ⟨rfl,?_⟩ hd)
 refine Calls.evalArgs_plain ?_
 refine spliced_more (Calls.Constant_str (Calls.spliced_nil ?_))
 exact ⟨rfl,(by show 1≤sizeLine;decide),hC,hN,T,fun h' e hx=>Aej (I.tok _) hx h⟩
end
def S8 (sp:Sp)(E:XK)(t:TA):TE:=fun σ H Q=>t σ H fun vs H1=>sp vs H1 Q E
section
variable {P:Program}{w:World}{K:PySem.W.Frag}{mg:Str→Option Value}{base:Heap}{N:List Str}{qual:Str}{scope:Scope}{f:Addr}{cd:Value}{A:Around}{outer:List Env}{s₀:Shared}{H₀:Hp}{E:XK}
theorem Vg {x:Str}{ps:List Str}{k k':Nat}{sp:Sp}{p pos:Pos}{e:Expr}{es:List Expr}{t:TA}(C:Bf P w K mg base x ps k sp)(hr:Bu k' (Dh (F9 P w) P w K mg base N qual scope f cd A outer s₀ H₀ E).A)(hk:k≤k')(hg:Gl (Dh (F9 P w) P w K mg base N qual scope f cd A outer s₀ H₀ E) x)
  (ha:PA (Dh (F9 P w) P w K mg base N qual scope f cd A outer s₀ H₀ E) (e::es) t) (hdb:(x==("__debug__":Str))=false:=by decide)
  (he:starEach (e::es) (Dh (F9 P w) P w K mg base N qual scope f cd A outer s₀ H₀ E).env=(false,eval e (Dh (F9 P w) P w K mg base N qual scope f cd A outer s₀ H₀ E).env)::starEach es (Dh (F9 P w) P w K mg base N qual scope f cd A outer s₀ H₀ E).env:=by rfl)
  (hpl:(backTo pos (starEach es (Dh (F9 P w) P w K mg base N qual scope f cd A outer s₀ H₀ E).env)).any (·.1)=false:=by rfl) :
  PE (Dh (F9 P w) P w K mg base N qual scope f cd A outer s₀ H₀ E) (.Call (.Name x p) (e::es) [] pos) (S8 sp E t):=by
 obtain ⟨f',fd,h1,h2,h3,h4,_⟩:=C.ex
 have z:=U8 (X:=Dh (F9 P w) P w K mg base N qual scope f cd A outer s₀ H₀ E) (pos:=pos) (p:=p) (h4.mono hk) hr hg h1 h2 h3 .nil (Air (E:=E)) ha hdb he hpl
 have e1:R7 sp [] E t=S8 sp E t:=by
  funext σ H Q
  unfold R7 S8
  simp only [List.append_nil]
 rw [e1] at z
 exact z
end
def C3 (a C:Addr):Heap→Prop:=fun h=>∃o vs,h.get? a=some o∧o.cls=.ref C∧o.data=.fields vs
section
variable {prog:Program}{w:World}{A:Around}{E:Value→Shared→Prop}{K:PySem.W.Frag}{x C:Addr}
theorem Mt {M:Model}{h:Heap}(p:C3 x C h):PySem.W.Looks M h (typeOf (.ref x)) (.ref C):=by
 obtain ⟨o,vs,e,c,_⟩:=p
 exact c▸(PySem.W.Looks.ld e).andThen .now
theorem Aaj {R:Result→Shared→Prop}{s:Shared}{tp:Value}(X:K.In s.heap)(p:C3 x C s.heap)(c:G3 K C)(h:R (.ok (.ret (.ref C))) s) :
  codeAny (model prog w) A (.call (.builtin "getset_descriptor.__get__") ⟨[.builtin "object.__class__",.ref x,tp],[]⟩) R s:=by
 obtain ⟨hh,g,d,t,os⟩:=s
 have l1:=Mt (M:=model prog w) p
 have l2:=PySem.W.looks_mroIn (M:=model prog w) X c.mo
 refine codeAny_call_builtin PySem.W.KF.slot_gs.plain PySem.W.KF.entry_gs ?_
 refine PySem.W.KF.slot_gs.check _ _ _ _ _ _ _ _ PySem.W.KF.type_class (PySem.W.KF.args_gs _ _ _) ?_
 unfold Builtin.«getset_descriptor.__get__» Builtin.Getset_descriptor.descrGet
 rw [PySem.W.dga_obj]
 refine wpAny_bind (wpAny_pure ?_)
 unfold Builtin.Getset_descriptor.descrGetter Builtin.Getset_descriptor.descrCheckInstance
 unfold Builtin.Getset_descriptor.descrNameAndClass isInstance
 simp only [PySem.W.KF.owner_class]
 repeat lk
 refine ⟨Code.quiet_builtin _ (by decide +kernel),?_⟩
 refine codeAny_builtin PySem.W.KF.entry_class ?_
 unfold Builtin.«object.__class__» shownTypeOf
 repeat lk
 exact h
theorem Abu {M:Model}{h:Heap}{g:Array GenState}{d:Drawn}{t:Nat}{os:OsState}{nameV:Value}{Q:Unit→Shared→Prop}(X:K.In h)(p:C3 x C h)(c:G3 K C)(hq:Q () ⟨h,g,d,t,os⟩) :
  wpAny M A (checkBuiltinCall "BaseException.__getattribute__" ⟨[.ref x,nameV],[]⟩) Q E ⟨h,g,d,t,os⟩:=by
 have e1:builtinKind "BaseException.__getattribute__"=some .slot:=by decide +kernel
 have e2:splitId "BaseException.__getattribute__"=some ("BaseException","__getattribute__"):=by decide +kernel
 have l1:=Mt (M:=M) p
 have l2:=PySem.W.looks_mroIn (M:=M) X c.mb
 have l3:PySem.W.Looks M h (isInstance (.ref x) (.type "BaseException")) true:=l1.andThen l2
 have ar:=F.args_bexc_ga (.ref x) nameV
 simp only [checkBuiltinCall,e1,e2]
 refine wpAny_bind (l3.at ?_)
 repeat (first|assumption|wp_step)
theorem Abz {s:Shared}{tk:Tok}{Q:Fin→Shared→Prop}(X:K.In s.heap)(p:C3 x C s.heap)(c:G3 K C)(hq:Q (.done (.ret (.ref C))) s) :
  wpAny (model prog w) A (Builtin.«object.__getattribute__» ⟨[.ref x,.str "__class__" tk],[]⟩) Q E s:=by
 obtain ⟨h,g,d,t,os⟩:=s
 have l1:=Mt (M:=model prog w) p
 have l2:=PySem.W.looks_findIn (M:=model prog w) X c.cl
 have f5:=F.typeOf_object_class
 have f6:=F.slot_gs_get.lookup
 have f7:=F.slot_gs_set.lookup
 unfold Builtin.«object.__getattribute__»
 repeat (first|with_reducible refine l1.at ?_|with_reducible refine l2.at ?_|wp_step)
 refine Aaj X p c ?_
 repeat (first|assumption|wp_step)
theorem Wx {s:Shared}{Q:Option Value→Shared→Prop}(X:K.In s.heap)(p:C3 x C s.heap)(c:G3 K C)(hq:Q (some (.ref C)) { s with toks:=s.toks+1 }) :
  wpAny (model prog w) A (getAttr? (.ref x) "__class__") Q E s:=by
 obtain ⟨h,g,d,t,os⟩:=s
 have l1:=Mt (M:=model prog w) p
 have l2:=PySem.W.looks_findIn (M:=model prog w) X c.ga
 have l3:=PySem.W.looks_findIn (M:=model prog w) X c.gn
 have b1:=PySem.F.attr_ValueError.ga.bind (.ref x)
 unfold getAttr? getAttrBy?
 unfold getAttrBy
 refine wpAny_bind (wpAny_mkText (wpAny_bind (wpAny_attempt (wpAny_holding (wpAny_bind (l1.at (wpAny_bind (l2.at ?_))))))))
 show wpAny _ _ (getAttrByItsOwn _ _ _ _ _ _) _ _ _
 unfold getAttrByItsOwn
 refine wpAny_bind (l3.at ?_)
 refine wpAny_bind (wpAny_attempt (wpAny_holding ?_))
 show wpAny _ _ (boundAndCalled _ _ _) _ _ _
 unfold boundAndCalled
 rw [b1]
 refine wpAny_bind (wpAny_pure ?_)
 refine wpAny_call (codeAny_call_builtin PySem.F.attr_ValueError.ga.plain F.entry_bexc_ga ?_)
 refine Abu X p c ?_
 refine Abz (s:=⟨h,g,d,t+1,os⟩) X p c ?_
 exact wpAny_pure (wpAny_pure hq)
theorem Qi (c:G3 K C):PySem.W.KitX K (.ref x) (.ref C) (C3 x C) where
 ty:=fun M h _ p=>Mt p
 it:=fun M h X p=>by
  obtain ⟨dd,cd,sl,lk⟩:=Tv c.nw
  intro A' Q' E' s' k q
  unfold isType loadHead
  exact wpAny_bind (wpAny_loadPart (k _ _ (X _ _ lk)) (wpAny_pure q))
 ne:=fun h tp d' its n sl X e=>by
  obtain ⟨dd,cd,sl',lk⟩:=Tv c.nw
  refine Bool.eq_false_iff.mpr fun q=>?_
  have e2:C=tp:=Value.ref.inj (beq_iff_eq.mp q)
  subst e2
  have z:=congrArg Obj.cls (Option.some.inj ((X _ _ lk).symm.trans e))
  exact absurd (Value.type.inj z) (by decide)
 ca:=fun X p q=>Wx X p c q
end
section
variable {X:Cx}
def R9 (K:PySem.W.Frag):List V→Hp→VK→Prop:=fun xs H Q=>match xs with
 |[.ref p,.ref D]=>∃C b,H p=some (.ext (C3 p C))∧G3 K C∧PySem.W.kitOne K (.ref C) (.ref D)=some b∧Q (.bl b) H
 |[.ref p,.ty T]=>∃C b,H p=some (.ext (C3 p C))∧G3 K C∧PySem.W.kitOne K (.ref C) (.type T)=some b∧Q (.bl b) H
 |_=>False
theorem Pa:B6 X (.builtin "isinstance") (R9 X.K):=by
 intro pins s σ H xs us Q I r h
 match xs,h with
 |[.ref p,.ref D],⟨C,b,e,c,k,q⟩=>
  obtain ⟨u,v,rfl,r1,r2⟩:=Fi r
  cases (show u=Value.ref p from r1)
  cases (show v=Value.ref D from r2)
  have o:A4 X.prog X.w H s.heap p (.ext (C3 p C)):=I.hok p _ e
  exact PySem.W.kia_one (Qi c) I.kIn o.1 k (fun z=>nomatch z) fun tk=>⟨.bl b,H,I.tok _,rfl,q⟩
 |[.ref p,.ty T],⟨C,b,e,c,k,q⟩=>
  obtain ⟨u,v,rfl,r1,r2⟩:=Fi r
  cases (show u=Value.ref p from r1)
  cases (show v=Value.type T from r2)
  have o:A4 X.prog X.w H s.heap p (.ext (C3 p C)):=I.hok p _ e
  exact PySem.W.kia_one (Qi c) I.kIn o.1 k (fun z=>nomatch z) fun tk=>⟨.bl b,H,I.tok _,rfl,q⟩
theorem Nx:∀{ds:List Addr} {us:List Value},Az (ds.map V.ref) us→us=ds.map Value.ref
 |[],_,r=>by cases r;rfl
 |d::ds,_,r=>by
  cases r with
  |cons r1 r2=>rw [show _=Value.ref d from r1,Nx r2];rfl
def Adp (K:PySem.W.Frag):List V→Hp→VK→Prop:=fun xs H Q=>match xs with
 |[.ref p,.ref t]=>∃(C:Addr) (b:Bool) (ds:List Addr),H p=some (.ext (C3 p C))∧G3 K C∧H t=some (.tup (ds.map V.ref))∧PySem.W.kitAny K (.ref C) (ds.map Value.ref)=some b∧Q (.bl b) H
 |_=>False
theorem Ag4:B6 X (.builtin "isinstance") (Adp X.K):=by
 intro pins s σ H xs us Q I r h
 match xs,h with
 |[.ref p,.ref t],⟨C,b,ds,e,c,et,k,q⟩=>
  obtain ⟨u,v,rfl,r1,r2⟩:=Fi r
  cases (show u=Value.ref p from r1)
  cases (show v=Value.ref t from r2)
  have o:A4 X.prog X.w H s.heap p (.ext (C3 p C)):=I.hok p _ e
  obtain ⟨_,its,rv,ob,e1,e2,n,e3⟩:=(show A4 X.prog X.w H s.heap t (.tup (ds.map V.ref)) from I.hok t _ et)
  obtain ⟨oc,od,oda,osl⟩:=ob
  dsimp only at e2 e3
  subst e2 e3
  rw [Nx rv] at e1
  exact PySem.W.kia_tup (Qi c) I.kIn o.1 e1 k (fun z=>nomatch z) fun tk=>⟨.bl b,H,I.tok _,rfl,q⟩
end
theorem Afl {K:PySem.W.Frag}{t:Value}:PySem.W.kitAny K t (([]:List Addr).map Value.ref)=some false:=rfl
theorem K6 {K:PySem.W.Frag}{t:Value}{d:Addr}{ds:List Addr}(h:PySem.W.kitOne K t (.ref d)=some false)(r:PySem.W.kitAny K t (ds.map Value.ref)=some false):PySem.W.kitAny K t ((d::ds).map Value.ref)=some false:=by
 rw [List.map_cons]
 unfold PySem.W.kitAny
 rw [h]
 exact r
section
variable {X:Cx}{pins:List (Addr×Obj)}{σ:L2.St}{H:Hp}{s:Shared}
theorem G7 {M:Model}{A:Around}{E:Value→Shared→Prop}{Q:Unit→Shared→Prop}{n:Nat}{x:Str}{pos:Pos}(I:Ap X pins σ H s)(nd:X.N.Nodup)(hn:X.N[n]? =some x)(hl:X.env.scope.names.lookup x=some .local)
  (k:∀s',Ap X pins (σ.set n none) H s'→Q () s'):wpAny M A (do bindName X.env x .none;unbindBehindTheSuite X.env x pos) Q E s:=by
 refine wpAny_bind (wpAny_bindName (Ig I nd hn (.inl hl) (v:=.non) (u:=.none) rfl (fun s1 I1=>?_) (.inr hl)))
 obtain ⟨m,hns,hloc⟩:=id I1.loc
 have hlen:n<σ.length:=by rw [I.len];exact (List.getElem?_eq_some_iff.mp hn).1
 have hm:m x=some .none:=by
  obtain ⟨u,ru,lk⟩:=hloc n x .non hn (by rw [List.getElem?_set_self hlen]) (.inl hl)
  cases (show u=Value.none from ru)
  rcases lk with ⟨_,e⟩|⟨z,_⟩
  ·exact e
  ·have z':X.env.scope.names.lookup x=some .cell∨X.env.scope.names.lookup x=some .free:=z
   rw [hl] at z'
   rcases z' with z'|z'<;>cases z'
 have hp:(X.env.scope.kind==.class||(X.env.scope.kind==.module&&X.env.locals != X.env.globals))=false:=by rw [I.ok.kind];rfl
 have hl':X.env.kindOf x=some .local:=hl
 unfold unbindBehindTheSuite
 refine wpAny_onRaise ?_
 unfold unbindName
 refine wpAny_bind (wpAny_point (wpAny_bind ?_))
 unfold deleteName
 simp only [hl',hp]
 rw [if_neg (by decide)]
 refine wpAny_bind (wpAny_nsDel_keeps hns fun h2 v hn2 sb=>?_)
 rw [hm]
 simp only [if_true,Option.isSome_some,Bool.not_true,Bool.false_eq_true,if_false]
 refine wpAny_pure (wpAny_point (k _ ?_))
 have ne:∀b o,X.s₀.heap.get? b=some o→b≠X.env.locals:=fun b o e=>Nat.ne_of_lt (Nat.lt_of_lt_of_le (Heap.lt_size e) I.ok.above)
 refine ⟨I1.ok,I1.os,I1.bare,⟨fun b o e n' hb hx=>?_,fun b o e n' hb hx=>?_,I1.base.free,fun b o e hx=>?_,I1.base.tups,I1.base.frzs,I1.base.tbls⟩,⟨_,hn2,fun j y v' e1 e2 e3=>?_⟩,fun y c e=>?_,I1.free,I1.freeC,fun p hp=>?_,fun b u e=>?_,?_⟩
 ·exact (sb.2 b (ne b o e)).trans (I1.base.keep b o e n' hb hx)
 ·obtain ⟨sl,q⟩:=I1.base.slot b o e n' hb hx
  exact ⟨sl,(sb.2 b (ne b o e)).trans q⟩
 ·obtain ⟨o',q⟩:=I1.base.there b o e hx
  exact ⟨o',(sb.2 b (ne b o e)).trans q⟩
 ·have hj:j≠n:=by
   rintro rfl
   rw [List.getElem?_set_self hlen] at e2
   cases e2
  rw [List.getElem?_set_ne (Ne.symm hj)] at e2
  obtain ⟨u',r',q⟩:=hloc j y v' e1 (by rw [List.getElem?_set_ne (Ne.symm hj)];exact e2) e3
  refine ⟨u',r',?_⟩
  rcases q with ⟨kk,e⟩|⟨kk,c,e,z⟩
  ·refine .inl ⟨kk,?_⟩
   have hy:y≠x:=fun z=>hj (Md nd e1 (z▸hn))
   show (if y=x then v else m y)=some u'
   rw [if_neg hy]
   exact e
  ·exact .inr ⟨kk,c,e,z.sameBut sb (I1.cne y c e)⟩
 ·obtain ⟨w',z⟩:=I1.cell y c e
  exact ⟨w',z.sameBut sb (I1.cne y c e)⟩
 ·obtain ⟨q,q2,q3,q4⟩:=I1.pin p hp
  exact ⟨(sb.2 p.1 q3).trans q,q2,q3,q4⟩
 ·refine (I1.hok b u e).stay (fun c v' hc q=>(sb.2 c ?_).trans q) (fun _ q=>q) fun _ _ q=>q
  rintro rfl
  rcases hc with z|z
  ·subst z
   rw [I1.free] at e
   cases e
  ·rw [I1.free] at z
   cases z
 ·have z:=I1.len
  simp only [List.length_set] at z ⊢
  exact z
end
abbrev cxM (X:Cx)(v:Value):Cx:={ X with A:=X.A.mark (some v),calm:=false,xe:=fun _ _=>False }
section
variable {X:Cx}{pins:List (Addr×Obj)}{σ:L2.St}{H:Hp}{s:Shared}
theorem Ro (I:Ap X pins σ H s)(v:Value):Ap (cxM X v) pins σ H s:=
 ⟨⟨I.ok.mod,I.ok.kind,I.ok.glob,I.ok.blt,I.ok.above,I.ok.inj,I.ok.has,I.ok.cab,fun z=>(nomatch z),I.ok.frames,I.ok.stk,I.ok.exf,I.ok.bs,I.ok.bsz,I.ok.noex,I.ok.exfs,I.ok.funs,I.ok.frf⟩,I.os,I.bare,I.base,I.loc,I.cell,I.free,I.freeC,I.pin,I.hok,I.len⟩
theorem Fo {v:Value}(ok:X.Ok)(I:Ap (cxM X v) pins σ H s):Ap X pins σ H s:=⟨ok,I.os,I.bare,I.base,I.loc,I.cell,I.free,I.freeC,I.pin,I.hok,I.len⟩
end
structure Cat (K:PySem.W.Frag)(D:Addr):Prop where
 lk:∃dd cd sl,K.lookup D=some ⟨.type "type",dd,.cls cd,sl⟩
 mb:PySem.W.mroIn K D (.type "BaseException")=some true
theorem G3.cat {K:PySem.W.Frag}{C:Addr}(c:G3 K C):Cat K C:=⟨Tv c.nw,c.mb⟩
theorem Wy {M:Model}{A:Around}{E:Value→Shared→Prop}{K:PySem.W.Frag}{a C D:Addr}{s:Shared}{Q:Bool→Shared→Prop}(X:K.In s.heap)(p:∃o,s.heap.get? a=some o∧o.cls=.ref C)(c:Cat K D)
  (hm:PySem.W.mroIn K C (.ref D)=some true) (hq:Q true s):wpAny M A (excMatches (.ref a) (.ref D)) Q E s:=by
 obtain ⟨h,g,d,t,os⟩:=s
 obtain ⟨o,e,ec⟩:=p
 obtain ⟨dd,cd,sl,lk⟩:=c.lk
 have eD:=X _ _ lk
 have f:=tc_notTuple
 have l1:=PySem.W.looks_mroIn (M:=M) X c.mb
 have l2:=PySem.W.looks_mroIn (M:=M) X hm
 unfold excMatches
 repeat (first|with_reducible refine l1.at ?_|with_reducible refine l2.at ?_|(with_reducible refine wpAny_loadPart_at e ?_;rw [ec])|with_reducible refine wpAny_loadPart_at eD ?_|wp_step)
 exact hq
section
variable {X:Cx}{pins:List (Addr×Obj)}{σ:L2.St}{H H':Hp}{s s':Shared}
theorem W6 {E:Value→Shared→Prop}{a C D':Addr}{B:Heap}{a0:Value}{y nm:Str}{yp hpos:Pos}{b₀:Stmt}{suite:List Stmt}{n:Nat}{tu:TS}{D:Nq}(dx:Rt X)(I:Ap X pins σ H s)(F:We X.prog X.w X.stack H s H' a (.ref C) B a0 s')
  (hy:Gl X y) (hD:X.mg y=some (.ref D')) (cD:Cat X.K D') (hm:PySem.W.mroIn X.K C (.ref D')=some true) (nd:X.N.Nodup) (hn:X.N[n]? =some nm) (hl:X.env.scope.names.lookup nm=some .local) (hu:∀v,Ko (cxM X v) (b₀::suite) tu)
  (hdb:(y==("__debug__":Str))=false)
  (q:∀H3,Ai H' H3→H3 a=some (.ext (C3 a C))→tu { nx:=fun σ' H'=>D.nx (σ'.set n none) H',rt:=D.rt,bk:=fun σ' H'=>D.bk (σ'.set n none) H',ct:=fun σ' H'=>D.ct (σ'.set n none) H' } (σ.set n (some (.ref a))) H3) :
  wpAny (model X.prog X.w) X.A (noteFrame (.ref a) X.env) (fun _ s2=>wpAny (model X.prog X.w) X.A (setFlight (.ref a) none) (fun _ s3=>
   wpAny (model X.prog X.w) X.A (handleBy (.ref a) X.env [.ExceptHandler (some (.Name y yp)) (some nm) (b₀::suite) hpos]) (SP X pins D) E s3) E s2) E s':=by
 have hfr:X.A.frames=some (X.env::X.outer):=by rw [I.ok.frames,dx.stk]
 have hfl:=F.fly
 rw [dx.stk] at hfl
 refine wpAny_looks_onW hfr dx.fr hfl fun h4 held u4=>?_
 refine wpAny_landsW held fun h5 f5 u5=>?_
 have I5:Ap X pins σ H' { s' with heap:=h5 }:=I.call' (s':={ s' with heap:=h5 }) (ch:=[]) F.os (F.un5 f5.1 (u4.trans u5)) (F.hok5 f5.1) F.bare fun b hb=>absurd hb (by simp)
 refine wpAny_handleBy_cons (codeAny_handlers_test (Ip (Ro I5 (.ref a)) hy hD ?_ hdb)) (by intro z;cases z)
 refine Wy I5.kIn f5.there cD hm ?_
 refine codeAny_handlers_suite_as ?_
 refine lands_againW f5 fun h6 f6 u6=>?_
 obtain ⟨oe,ws,oe1,oe2,oe3,_⟩:=f6.first
 have up:∀b,b≠a→upd H' a (.ext (C3 a C)) b=H' b:=fun b hb=>Ak hb
 have sm:Ai H' (upd H' a (.ext (C3 a C))):=fun b o e=>by
  rw [up b (A9 e F.free)]
  exact e
 have un0:=F.un5 f6.1 ((u4.trans u5).trans u6)
 have un6:Un (Ie X.stack) [] H (upd H' a (.ext (C3 a C))) s.heap h6:=
  ⟨un0.keep,un0.slot,fun b o e n' hx=>by
   have hb:b≠a:=by
    rintro rfl
    rw [F.fresh] at e
    cases e
   rw [up b hb]
   exact un0.free b o e n' hx,un0.there,fun b xs e=>sm b _ (un0.tups b xs e),fun b o u e=>sm b _ (un0.frzs b o u e),fun b ps e=>by
   obtain ⟨more,e1⟩:=un0.tbls b ps e
   exact ⟨more,sm b _ e1⟩⟩
 have ok0:=F.hok5 f6.1
 have ok6:G9 X.prog X.w (upd H' a (.ext (C3 a C))) h6:=fun b u e=>by
  by_cases hb:b=a
  ·subst hb
   rw [Ad] at e
   cases e
   refine ⟨⟨oe,ws,oe1,oe2,oe3⟩,⟨oe,oe1⟩,fun h1 h2 ⟨o,vs,z1,z2,z3⟩ k=>⟨o,vs,k o z1,z2,z3⟩⟩
  ·rw [up b hb] at e
   exact (ok0 b u e).stay (fun _ _ _ q=>q) (fun c z=>sm c _ z) fun c xs z=>sm c _ z
 have I6:Ap X pins σ (upd H' a (.ext (C3 a C))) { s' with heap:=h6 }:=I.call' (s':={ s' with heap:=h6 }) (ch:=[]) F.os un6 ok6 F.bare fun b hb=>absurd hb (by simp)
 refine Ig (X:=cxM X (.ref a)) (Ro I6 (.ref a)) nd hn (.inl hl) (v:=.ref a) rfl (fun s7 I7=>?_) (.inr hl)
 refine wpAny_mono (hu (.ref a) pins s7 _ _ _ I7 (q _ sm Ad)) (fun fl s8 q8=>?_) fun _ _ z=>z.elim
 cases fl with
 |next=>
  obtain ⟨σ8,H8,I8,q8⟩:=q8
  exact G7 (Fo I.ok I8) nd hn hl fun s9 I9=>⟨_,H8,I9,q8⟩
 |brk=>
  obtain ⟨σ8,H8,I8,q8⟩:=q8
  exact G7 (Fo I.ok I8) nd hn hl fun s9 I9=>⟨_,H8,I9,q8⟩
 |cont=>
  obtain ⟨σ8,H8,I8,q8⟩:=q8
  exact G7 (Fo I.ok I8) nd hn hl fun s9 I9=>⟨_,H8,I9,q8⟩
 |ret u=>
  obtain ⟨v,σ8,H8,I8,r8,q8⟩:=q8
  exact G7 (Fo I.ok I8) nd hn hl fun s9 I9=>⟨v,_,H8,I9,r8,q8⟩
end
end Lw
end
section
namespace Lw
open PySem PySem.Spec PyProof.Rows L2
section
variable {X:Cx}{a b c:Expr}{ta tb tc:TE}{pos:Pos}{tg:Expr}
def Wm (mg:Str→Option Value)(x:Str)(v:V):Prop:=∃u,mg x=some u∧RelV v u
theorem N1 {x:Str}{v:V}(k:Wm X.mg x v)(hg:Gl X x)(hd:(x==("__debug__":Str))=false:=by decide):PE X (.Name x pos) (tC v):=by
 obtain ⟨u,h1,h2⟩:=k
 exact Ev hg h1 h2 hd
def Qk (r r':R2)(ta tb tc:TE):TE:=fun σ H Q=>ta σ H fun x H1=>tb σ H1 fun y H2=>r x y H2 fun z H3=>match z with
 |.bl k=>Br k (tc σ H3 fun w' H4=>r' y w' H4 Q) (Q (.bl false) H3)
 |_=>False
theorem N4 (r r':R2)(ta tb tc:TE):Qk r r' ta tb tc=Qp r r' ta tb tc:=by
 funext σ H Q
 unfold Qk Qp
 congr 1
 funext x H1
 congr 1
 funext y H2
 congr 1
 funext z H3
 apply propext
 cases z<;>simp [N9]
theorem Abj {op op':CmpOp}{r r':R2}(ho:C6 X (compareOp op) r)(ho':C6 X (compareOp op') r')(ha:PE X a ta)(hb:PE X b tb)(hc:PE X c tc)
  (hm:lastMarks [op,op'] [b,c]=false:=by with_unfolding_all rfl):PE X (.Compare a [op,op'] [b,c] pos) (Qk r r' ta tb tc):=by
 rw [N4]
 exact Yu ho ho' ha hb hc hm
theorem Ace {op op':CmpOp}{r r':R2}(ho:C6 X (compareOp op) r)(ho':C6 X (compareOp op') r')(ha:PE X a ta)(hb:PE X b tb)(hc:PE X c tc)
  (hm:lastMarks [op,op'] [b,c]=false:=by with_unfolding_all rfl):PT X (.Compare a [op,op'] [b,c] pos) (Kr (Qk r r' ta tb tc)):=by
 rw [Ms,N4]
 exact Aar ho ho' ha hb hc hm
def Ako (K:PySem.W.Frag):List V→Hp→VK→Prop:=fun xs H Q=>match xs with
 |[.ref p]=>∃bs:List Bool,A0 K H p (bs.map V.bl)∧Q (.bl (bs.all id)) H
 |_=>False
theorem Si:∀{bs:List Bool} {us:List Value},Az (bs.map V.bl) us→us=bs.map Value.bool
 |[],_,r=>by cases r;rfl
 |d::ds,_,r=>by
  cases r with
  |cons r1 r2=>rw [show _=Value.bool d from r1,Si r2];rfl
theorem Wa:∀bs:List Bool,((List.range bs.length).all fun i=>bs.getD i true)=bs.all id:=by
 intro bs
 rw [Bool.eq_iff_iff,List.all_eq_true,List.all_eq_true]
 constructor
 ·intro h b hb
  obtain ⟨i,hi,rfl⟩:=List.getElem_of_mem hb
  have:=h i (List.mem_range.mpr hi)
  rw [List.getD_eq_getElem?_getD,List.getElem?_eq_getElem hi] at this
  exact this
 ·intro h i hi
  have hi:=List.mem_range.mp hi
  rw [List.getD_eq_getElem?_getD,List.getElem?_eq_getElem hi]
  exact h _ (List.getElem_mem hi)
theorem Adl (hc:X.calm=true):B6 X (.builtin "all") (Ako X.K):=by
 intro pins s σ H xs us Q I r h
 match xs,h with
 | [.ref p],⟨bs,h1,q⟩=>
  obtain ⟨u,rfl,r1⟩:=Jh r
  cases (show u=Value.ref p from r1)
  obtain ⟨its,rv,pl,_⟩:=I.list h1
  have e:=Si rv
  subst e
  have hh:=I.ok.hd hc
  have il:=pl.isList
  obtain ⟨ob,eb,rb⟩:=id il
  have ne:p≠s.heap.objs.size:=Nat.ne_of_lt (Heap.lt_size eb)
  refine call_all_walk (wpAny_pyIter_list il ?_)
  refine ⟨s.heap.objs.size,_,_,_,_,_,fun i=>bs.getD i true,rfl,Walks.list (A:=X.A.in1) hh s.heap.objs.size p ne (bs.map Value.bool).toArray,⟨⟨_,Heap.get?_push_size _ rfl,rfl,rfl⟩,⟨ob,Heap.get?_push_of_some _ eb,rb⟩⟩,fun i v s2 Q2 E2 hP hQ=>?_,fun h' tk k=>?_⟩
  ·have hP:(bs.map Value.bool).toArray[i]? =some v:=hP
   rw [List.getElem?_toArray,List.getElem?_map] at hP
   cases e2:bs[i]? with
   |none=>
    rw [e2] at hP
    cases hP
   |some d=>
    rw [e2] at hP
    cases hP
    refine wpAny_truthy_bool ?_
    have:bs.getD i true=d:=by rw [List.getD_eq_getElem?_getD,e2];rfl
    rw [←this]
    exact hQ
  ·refine ⟨.bl (bs.all id),H,I.kept (t':=tk) fun b o e=>k b o ?_ (Heap.get?_push_of_some _ e),?_,q⟩
   ·intro z
    have z:b=s.heap.objs.size:=by simpa using z
    exact Nat.lt_irrefl _ (z▸Heap.lt_size e)
   ·show Value.bool _=Value.bool _
    rw [List.size_toArray,List.length_map,Wa]
end
end Lw
end
namespace Lw
open L2
end Lw
section
namespace Lw
open PySem PySem.Spec PyProof.Rows L2
section
variable {X:Cx}
def Ahr (t u:TS):TS:=fun D σ H=>∃R:L2.St→Hp→Prop,t { D with nx:=R } σ H∧∀σ' H',R σ' H'→u D σ' H'
theorem Dc {st:Stmt}{r:List Stmt}{t u:TS}(h1:PS X st t)(h2:Ko X r u):Ko X (st::r) (Ahr t u):=by
 intro pins s σ H D I h
 obtain ⟨R,h⟩:=h
 exact Ad3 R h1 h2 pins s σ H D I h
end
end Lw
end
section
set_option autoImplicit false
namespace Lw
open PySem PySem.Spec PyProof.Rows L2
section
variable {X:Cx}{pos:Pos}
def S0 (K:PySem.W.Frag):List V→Hp→VK→Prop:=fun xs H Q=>match xs with
 |[.ref p]=>∃ys,(A0 K H p ys∨Ed K H p ys)∧∀l,H l=none→Q (.ref l) (upd H l (.lst ys))
 |_=>False
theorem O8:B6 X (.type "list") (S0 X.K):=by
 intro pins s σ H xs us Q I r h
 match xs,h with
 |[.ref p],⟨ys,h1,q⟩=>exact Jc pins s σ H _ us Q I r ⟨p,ys,rfl,h1,q⟩
end
end Lw
end
section
set_option autoImplicit false
namespace Lw
open PySem PySem.Spec PyProof.Rows L2
section
variable {X:Cx}{pos:Pos}
structure Zl (K:PySem.W.Frag)(a:Addr)(xs:List V):Prop where
 sq:∀H,Ed K H a xs
 ty:∃o,K.lookup a=some o∧o.cls=.type "tuple"∧o.dict=none
def Abk (K:PySem.W.Frag):R2:=fun x y H Q=>match y with
 |.ref p=>∃xs,(A0 K H p xs∨Ed K H p xs)∧E7 x=true∧xs.all E7=true∧Q (.bl (!inV x xs)) H
 |_=>False
theorem Aa4:C6 X (compareOp .NotIn) (Abk X.K):=by
 intro pins s σ H x y v u Q I rx ry q
 cases y<;>first
  |exact False.elim q
  | (obtain ⟨xs,h1,h2,h3,q⟩:=q
     exact P1 _ _ _ _ _ _ _ _ _ I rx ry ⟨_,xs,rfl,h1,h2,h3,q⟩)
end
section
open PySem.AutoSeq1 (wpAny_loadPart')
open PySem.MeetsSeq PySem.MeetsSeq2 PySem.MeetsSeq3 PySem.SeqRoads2 PySem.SeqAt
section
variable {X:Cx}{pos:Pos}
end
end
end Lw
end
section
set_option autoImplicit false
namespace Lw
open PySem PySem.Spec PyProof.Rows L2
section
variable {X:Cx}{pos p2 p3 p4:Pos}
def Ai5:List V→Hp→VK→Prop:=fun xs H Q=>match xs with
 |[.bl b]=>Q (.int (if b then 1 else 0)) H
 |_=>False
theorem Yk:B6 X (.type "int") Ai5:=by
 intro pins s σ H xs us Q I r h
 match xs,h with
 |[.bl b],q=>
  obtain ⟨u,rfl,r1⟩:=Jh r
  cases (show u=Value.bool b from r1)
  exact PySem.call_int_bool ⟨.int _,H,I.tok _,⟨_,rfl⟩,q⟩
end
end Lw
end
section
namespace Lw
open PySem PySem.Spec PyProof.Rows L2
section
variable {prog:Program}{w:World}{A:Around}{R:Result→Shared→Prop}{s:Shared}
theorem Zt (elt tg iter cd:Expr)(scope:Scope)(pos:Pos)(it acc:Value)(env:Env) :
  compTurn (.ListComp elt [⟨tg,iter,[cd],0⟩] scope pos) 0 it acc env=(standAt iter.pos >>= fun _=>pyNext it >>= fun r=>match r with
   |none=>pure (.done .next)
   |some v=>letOwnedTupleGo tg it v >>= fun _=>assign tg env v >>= fun _=>isTrue cd env (eval cd env) >>= fun b=>if b=true then ((eval elt env >>= fun x=>call (.builtin "list.append") [acc,x] >>= fun _=>pure ()) >>= fun _=>again (.compLoop (.ListComp elt [⟨tg,iter,[cd],0⟩] scope pos) 0 it acc env)) else again (.compLoop (.ListComp elt [⟨tg,iter,[cd],0⟩] scope pos) 0 it acc env)):=by
 unfold compTurn
 simp only [List.getElem?_cons_zero,bne_self_eq_false,Bool.false_eq_true,if_false,List.forIn_cons,List.forIn_nil,if_true]
 congr 1
 funext _
 congr 1
 funext r
 cases r with
 |none=>rfl
 |some v=>
  simp only [bind_assoc,pure_bind]
  rfl
theorem S7 {elt tg iter cd:Expr}{scope:Scope}{pos:Pos}{it acc:Value}{env:Env}(I:Nat→Shared→Prop)
  (turn:∀n s,I n s→wpAny (model prog w) A (pyNext it) (fun r s1=>(r=none∧R (.ok .next) s1)∨∃v,r=some v∧wpAny (model prog w) A (letOwnedTupleGo tg it v) (fun _ s2=>wpAny (model prog w) A (assign tg env v) (fun _ s3=>
   wpAny (model prog w) A (isTrue cd env (eval cd env)) (fun b s3=>Br b (wpAny (model prog w) A (eval elt env) (fun x s4=>wpAny (model prog w) A (call (.builtin "list.append") [acc,x]) (fun _ s5=>∃m,m<n∧I m s5) (fun _ _=>False) s4) (fun _ _=>False) s3) (∃m,m<n∧I m s3)) (fun _ _=>False) s3) (fun _ _=>False) s2) (fun _ _=>False) s1) (fun _ _=>False) s)
  (n:Nat) (h:I n s):codeAny (model prog w) A (.compLoop (.ListComp elt [⟨tg,iter,[cd],0⟩] scope pos) 0 it acc env) R s:=by
 refine codeAny_loop rfl I (fun n s hI=>?_) n h
 show wpAny _ _ ((compTurn (.ListComp elt [⟨tg,iter,[cd],0⟩] scope pos) 0 it acc env).onRaise (fun x=>do noteFrame x env;theTreesLotGoes x)) _ _ s
 refine wpAny_noted ?_
 rw [Zt]
 refine wpAny_bind (wpAny_standAt (wpAny_bind (wpAny_mono (turn n s hI) (fun r s1 h1=>?_) fun _ _ z=>z.elim)))
 rcases h1 with ⟨rfl,h1⟩|⟨v,rfl,h1⟩
 ·exact wpAny_pure h1
 ·refine wpAny_bind (wpAny_mono h1 (fun _ s2 h2=>?_) fun _ _ z=>z.elim)
  refine wpAny_bind (wpAny_mono h2 (fun _ s3 h3=>?_) fun _ _ z=>z.elim)
  refine wpAny_bind (wpAny_mono h3 (fun b s3 h3=>?_) fun _ _ z=>z.elim)
  cases b with
  |true=>
   refine wpAny_bind (wpAny_bind (wpAny_mono (h3.1 rfl) (fun x s4 h4=>?_) fun _ _ z=>z.elim))
   refine wpAny_bind (wpAny_mono h4 (fun _ s5 h5=>?_) fun _ _ z=>z.elim)
   exact wpAny_pure (wpAny_pure ⟨rfl,h5⟩)
  |false=>exact wpAny_pure ⟨rfl,h3.2 rfl⟩
end
@[irreducible] def Gf (J:It) (g:TG) (tc:TT) (te:TE) (k:Nat) (js:List Nat) (σ:L2.St) (H1:Hp) (Q:VK):Prop:=∀D,H1 D=none→∃W:Nat→Nat→Hp→Prop,(∃m,W 0 m (upd H1 D (.lst [])))∧∀i m H,W i m H →
 (J.stop i H∧Q (.ref D) H)∨(J.go i H∧∀x H',J.yld i H x H'→g x (List.replicate k none++capσ js σ) H' fun σ2 H2=>σ2.drop k=capσ js σ∧tc σ2 H2 fun b H3=>Br b (te σ2 H3 fun v H4=>∃xs,H4 D=some (.lst xs)∧xs.length<sizeLine∧∃m',m'<m∧W (i+1) m' (upd H4 D (.lst (xs++[v])))) (∃m',m'<m∧W (i+1) m' H3))
def Mx (wi:TI)(g:TG)(tc:TT)(te:TE)(k:Nat)(js:List Nat):TE:=fun σ H Q=>wi σ H fun J H1=>Gf J g tc te k js σ H1 Q
section
variable {X:Cx}
theorem Mr {elt iter tg cd:Expr}{scope:Scope}{pos:Pos}{wi:TI}{te:TE}{tc:TT}{g:TG}{N:List Str}{cl:List (Str×Addr)}(k:Nat)(js:List Nat)(hi:PI X tg iter wi)
  (hg:∀C s H fp,PG (G5 X N s H (compEnvC scope cl C X.env) fp) tg g) (hd:∀C s H fp,PT (G5 X N s H (compEnvC scope cl C X.env) fp) cd tc) (he:∀C s H fp,PE (G5 X N s H (compEnvC scope cl C X.env) fp) elt te) (hcalm:X.calm=true)
  (hclos:closureFor scope X.env=pure cl) (hkind:scope.kind=.function) (hcell:∀y∈scope.names,y.2≠.cell) (hnames:∀y∈scope.names,y.2=.local→scope.names.lookup y.1=some .local)
  (hcl:∀y c,cl.lookup y=some c→X.env.cells.lookup y=some c) (hhas:∀y,((relabel scope X.env).names.lookup y=some .cell∨(relabel scope X.env).names.lookup y=some .free)→∃c,cl.lookup y=some c)
  (hlen:N.length=k+js.length) (hcap:∀i j,js[i]? =some j→∃y,N[k+i]? =some y∧Cap X (relabel scope X.env) cl j y)
  (hs:∀x,foldedSetIterable iter X.env x=pure x) {pins:List (Addr×Obj)} {s:Shared} {σ:L2.St} {H:Hp} {Q:VK} (I:Ap X pins σ H s) (h:Mx wi g tc te k js σ H Q) {cpos:Pos} {use:Option (Value→Sem Unit)} {Qv:Value→Shared→Prop}
  (fin:∀(s6:Shared) (H5:Hp) (D C:Addr) (m:Str→Option Value),Ap X pins σ H5 s6→s6.heap.Ns C m→H5 C=none→X.s₀.heap.objs.size≤C→C≠X.env.locals→(∀x c,X.env.cells.lookup x=some c→c≠C)→(∀p∈X.pn++pins,p.1≠C)→Q (.ref D) H5 →
   compPost (model X.prog X.w) X.A X.xe use Qv (.ref D) C (.ok .next) s6) :
  wpAny (model X.prog X.w) X.A (comprehension (.ListComp elt [⟨tg,iter,[cd],0⟩] scope pos) scope X.env cpos (newList []) false (eval iter X.env) use) Qv X.xe s:=by
 refine wpAny_comprehension_free (use:=use) rfl hs hclos hkind hnames (Ba (hi pins s σ H _ I h) fun v s1 h1=>Ba h1 fun itv s2 h2=>?_)
 obtain ⟨it,fp,tn,J,H2,rfl,I2,T,st2,f2,h2⟩:=h2
 refine wpAny_newObj_type ?_
 have hD:H2 s2.heap.objs.size=none:=I2.hok.fresh (Nat.le_refl _)
 unfold Gf at h2
 obtain ⟨W,⟨m0,w0⟩,turn⟩:=h2 _ hD
 have I3:Ap X pins σ (upd H2 s2.heap.objs.size (.lst [])) { s2 with heap:=s2.heap.push { cls:=.type "list",dict:=none,data:=.seq ([]:List Value).toArray } } :=
  I2.laid (t':=s2.toks) (fun b u e=>Heap.get?_push_of_some _ e) (Nat.le_refl _) ⟨Nat.zero_le _,[],0,.nil,Heap.get?_push_size _ rfl⟩
 have hlt:∀b∈fp,b<s2.heap.objs.size:=fun b hb=>by
  obtain ⟨o,e,_⟩:=T.obj _ _ st2 b hb
  exact Heap.lt_size e
 have f3:∀b∈fp,J3 X pins (upd H2 s2.heap.objs.size (.lst [])) b:=fun b hb=>⟨by rw [Ak (Nat.ne_of_lt (hlt b hb))];exact (f2 b hb).1,(f2 b hb).2⟩
 have st3:tn 0 (s2.heap.push { cls:=.type "list",dict:=none,data:=.seq ([]:List Value).toArray }):=T.keep _ _ _ st2 fun b hb o e=>Heap.get?_push_of_some _ e
 have hlt3:∀b∈fp,b<(s2.heap.push { cls:=.type "list",dict:=none,data:=.seq ([]:List Value).toArray }).objs.size:=fun b hb=>Nat.lt_of_lt_of_le (hlt b hb) (by rw [Heap.size_push];exact Nat.le_succ _)
 generalize hs3:({ s2 with heap:=s2.heap.push { cls:=.type "list",dict:=none,data:=.seq ([]:List Value).toArray } }:Shared)=s3 at I3
 have eh:s3.heap=s2.heap.push { cls:=.type "list",dict:=none,data:=.seq ([]:List Value).toArray }:=by rw [←hs3]
 rw [←eh] at st3 hlt3
 generalize hDD:s2.heap.objs.size=D at *
 generalize hH3:upd H2 D (.lst [])=H3 at *
 clear hs3 eh
 refine wpAny_newFunctionEnv (s:=s3) hcell (by intro y hy;simp at hy) (fun h4 n4 sb4=>?_) hkind
 have Ok:=Uz (N:=N) (C:=s3.heap.objs.size) I3 hkind (Nat.le_refl _) hcl hhas fun b hb=>⟨f3 b hb,hlt3 b hb⟩
 show codeAny _ _ (.compStart (.ListComp elt [⟨tg,iter,[cd],0⟩] scope pos) 0 (.ref it) (.ref D) (compEnvC scope cl s3.heap.objs.size X.env)) _ _
 generalize hC:s3.heap.objs.size=C at *
 have old:∀b o,s3.heap.get? b=some o→h4.get? b=some o:=fun b o e=>sb4.extBut b o (by rw [←hC];exact Nat.ne_of_lt (Heap.lt_size e)) (Heap.get?_push_of_some _ e)
 have fresh:H3 C=none:=I3.hok.fresh (by rw [hC];exact Nat.le_refl _)
 have hcapl:∀{i:Nat} {x:Str} {v:V},N[i]? =some x→(List.replicate k none++capσ js σ)[i]? =some (some v)→∃u,L2.RelV v u∧Aen (compEnvC scope cl C X.env) h4 (fun _=>none) x u:=by
  intro i x v e1 e2
  by_cases hik:i<k
  ·rw [List.getElem?_append_left (by simpa using hik)] at e2
   rw [List.getElem?_replicate] at e2
   simp [hik] at e2
  ·rw [List.getElem?_append_right (by simpa using Nat.le_of_not_lt hik),List.length_replicate] at e2
   unfold capσ at e2
   rw [List.getElem?_map] at e2
   cases ej:js[i-k]? with
   |none=>
    rw [ej] at e2
    cases e2
   | some j=>
    rw [ej] at e2
    have e2:(σ[j]?).join=some v:=Option.some.inj e2
    obtain ⟨y,hy,cp⟩:=hcap _ _ ej
    rw [show k+(i-k)=i by omega,e1] at hy
    cases hy
    obtain ⟨m,_,hl⟩:=I3.loc
    have e3:σ[j]? =some (some v):=by
     cases q:σ[j]? with
     |none=>
      rw [q] at e2
      cases e2
     |some o=>
      rw [q] at e2
      have:o=some v:=e2
      rw [this]
    obtain ⟨u,ru,lk⟩:=hl j x v cp.nm e3 (.inr (.inl cp.ko))
    refine ⟨u,ru,?_⟩
    rcases lk with ⟨z,_⟩|⟨_,c,hc,z⟩
    ·rw [cp.ko] at z
     cases z
    ·refine .inr ⟨.inl cp.ki,c,by rw [←hc];exact cp.cl,?_⟩
     obtain ⟨o,e,d⟩:=z
     exact ⟨o,old _ _ e,d⟩
 have I4:Ap (G5 X N s3 H3 (compEnvC scope cl C X.env) fp) [] (List.replicate k none++capσ js σ) H3 { s3 with heap:=h4,toks:=s3.toks+([]:List (Str×Value)).length }:=by
  refine ⟨Ok,rfl,I3.bare,Un.kept old,⟨_,n4,fun i x v e1 e2 e3=>?_⟩,fun x c e=>?_,fresh,fun x c e=>I3.freeC x c (hcl x c e),fun p hp=>absurd hp (by simp),I3.hok.kept old,?_⟩
  ·obtain ⟨u,ru,lk⟩:=hcapl e1 e2
   refine ⟨u,ru,?_⟩
   rcases lk with ⟨z,q⟩|q
   ·cases q
   ·exact .inr q
  ·obtain ⟨v,o,e1,d⟩:=I3.cell x c (hcl x c e)
   exact ⟨v,o,old _ _ e1,d⟩
  ·simp [capσ,hlen]
 have fp4:∀{H':Hp},(∀b∈fp,H' b=none)→∀b∈fp,J3 (G5 X N s3 H3 (compEnvC scope cl C X.env) fp) [] H' b:=fun hn b hb=>
  ⟨hn b hb,(Ok.exf b hb).1,Ok.exfs b hb,.inl hb,fun x c e=>(Ok.exf b hb).2 x c e,fun p hp=>absurd hp (by simp)⟩
 have st4:tn 0 h4:=T.keep _ _ _ st3 fun b hb o e=>old b o e
 have run:∀s4:Shared,s4={ s3 with heap:=h4,toks:=s3.toks+([]:List (Str×Value)).length } →
   codeAny (model X.prog X.w) X.A (.compLoop (.ListComp elt [⟨tg,iter,[cd],0⟩] scope pos) 0 (.ref it) (.ref D) (compEnvC scope cl C X.env)) (compPost (model X.prog X.w) X.A X.xe use Qv (.ref D) C) s4:=by
  rintro s4 rfl
  refine S7 (fun n s'=>∃i H' σ',Ap (G5 X N s3 H3 (compEnvC scope cl C X.env) fp) [] σ' H' s'∧(∀j:Nat,∀v,(List.replicate k none++capσ js σ)[j]? =some (some v)→σ'[j]? =some (some v))∧tn i s'.heap∧(∀b∈fp,H' b=none)∧W i n H') ?_ m0
   ⟨0,H3,_,I4,fun _ _ z=>z,st4,fun b hb=>(f3 b hb).1,w0⟩
  rintro n s5 ⟨i,H5,σ5,I5,cap5,st5,fr5,w5⟩
  have I5':=I5.weak (σ':=List.replicate k none++capσ js σ) (by rw [I5.len];simp [capσ,hlen]) cap5
  rcases turn i n H5 w5 with ⟨stop,q⟩|⟨go,step⟩
  ·refine Ba (T.done (G5 X N s3 H3 (compEnvC scope cl C X.env) fp) rfl rfl rfl hcalm i [] s5 σ5 H5 _ I5 (fp4 fr5) st5 stop) fun r s6 ⟨hr,I6⟩=>.inl ⟨hr,?_⟩
   obtain ⟨m6,n6,_⟩:=I6.loc
   have hCf:H5 C=none:=I6.free
   have u6:=I6.base
   have uC:Un (Ie X.stack) fp H3 H5 s3.heap s6.heap:=⟨u6.keep,u6.slot,u6.free,u6.there,u6.tups,u6.frzs,u6.tbls⟩
   have I7:Ap X pins σ H5 s6:=I3.call' (s':=s6) I6.os uC I6.hok I6.bare fun b hb=>⟨(f3 b hb).2.2.2.1,(f3 b hb).2.1,(f3 b hb).2.2.2.2.1,(f3 b hb).2.2.2.2.2⟩
   have lt3:∀b o,s3.heap.get? b=some o→b≠C:=fun b o e=>by rw [←hC];exact Nat.ne_of_lt (Heap.lt_size e)
   refine fin s6 H5 D C m6 I7 n6 hCf (by rw [←hC];exact I3.sz) (by rw [←hC];exact Nat.ne_of_gt I3.lt) (fun x c e=>?_) (fun p hp=>lt3 p.1 p.2 (I3.pin p hp).1) q
   obtain ⟨v,o,e1,_⟩:=I3.cell x c e
   exact lt3 c o e1
  ·refine Ba (T.item (G5 X N s3 H3 (compEnvC scope cl C X.env) fp) rfl rfl rfl hcalm i [] s5 _ H5 _ I5' (fp4 fr5) st5 go) fun r s6 ⟨u,hr,h6⟩=>.inr ⟨u,hr,?_⟩
   refine Ba h6 fun _ s7 ⟨x,H7,I7,r7,y7,st7,fr7⟩=>?_
   have I7':=I7.pinned (fp4 fr7) (T.obj _ _ st7)
   refine Ba (hg C s3 H3 fp _ s7 _ H7 x u _ I7' r7 (step x H7 y7)) fun _ s8 ⟨σ8,H8,I8,d8,q8⟩=>?_
   have capk:∀(j:Nat) v,(List.replicate k none++capσ js σ)[j]? =some (some v)→σ8[j]? =some (some v):=fun j v e=>by
    by_cases hjk:j<k
    ·rw [List.getElem?_append_left (by simpa using hjk),List.getElem?_replicate] at e
     simp [hjk] at e
    ·rw [List.getElem?_append_right (by simpa using Nat.le_of_not_lt hjk),List.length_replicate,←d8,List.getElem?_drop] at e
     rw [show k+(j-k)=j by omega] at e
     exact e
   refine Ba (hd C s3 H3 fp _ s8 σ8 H8 _ I8 q8) fun b s8' ⟨H8',I8',q8'⟩=>⟨fun hb=>?_,fun hb=>?_⟩
   ·refine Ba (he C s3 H3 fp _ s8' σ8 H8' _ I8' (q8'.1 hb)) fun vv s9 ⟨vx,H9,I9,r9,xs,hx9,hz9,m',hm',w9⟩=>?_
    obtain ⟨z9,its,n9,rl,e9⟩:=(show A4 X.prog X.w H9 s9.heap D (.lst xs) from I9.hok D _ hx9)
    have app:=D5 (X:=G5 X N s3 H3 (compEnvC scope cl C X.env) fp) _ s9 σ8 H9 (.ref D) [vx] (.ref D) [vv] (fun _ H'=>H'=upd H9 D (.lst (xs++[vx]))) I9 rfl (.cons r9 .nil) ⟨D,xs,vx,rfl,rfl,hx9,hz9,rfl⟩
    refine Ba app fun _ s10 ⟨_,H10,I10,_,e10⟩=>?_
    subst e10
    refine ⟨m',hm',i+1,_,σ8,I10.unpinned (pins:=[]),capk,T.keep _ _ _ st7 fun b hb o e=>(I10.pin (b,o) (List.mem_append_right _ (List.mem_append_right _ (Cd hb e)))).1,fun b hb=>?_,w9⟩
    obtain ⟨o,e,d⟩:=T.obj _ _ st7 b hb
    exact (I10.pin (b,o) (List.mem_append_right _ (List.mem_append_right _ (Cd hb e)))).2.1
   ·obtain ⟨m',hm',w9⟩:=q8'.2 hb
    refine ⟨m',hm',i+1,_,σ8,I8'.unpinned (pins:=[]),capk,T.keep _ _ _ st7 fun b hb o e=>(I8'.pin (b,o) (List.mem_append_right _ (List.mem_append_right _ (Cd hb e)))).1,fun b hb=>?_,w9⟩
    obtain ⟨o,e,d⟩:=T.obj _ _ st7 b hb
    exact (I8'.pin (b,o) (List.mem_append_right _ (List.mem_append_right _ (Cd hb e)))).2.1
 exact codeAny_compStart_list (run _ rfl) (T.self X.A 0 _ _ _ st4 (run _ rfl))
theorem Abi {elt iter tg cd:Expr}{scope:Scope}{pos:Pos}{wi:TI}{te:TE}{tc:TT}{g:TG}{N:List Str}{cl:List (Str×Addr)}(k:Nat)(js:List Nat)(hi:PI X tg iter wi)
  (hg:∀C s H fp,PG (G5 X N s H (compEnvC scope cl C X.env) fp) tg g) (hd:∀C s H fp,PT (G5 X N s H (compEnvC scope cl C X.env) fp) cd tc) (he:∀C s H fp,PE (G5 X N s H (compEnvC scope cl C X.env) fp) elt te) (hcalm:X.calm=true)
  (hclos:closureFor scope X.env=pure cl) (hkind:scope.kind=.function) (hcell:∀y∈scope.names,y.2≠.cell) (hnames:∀y∈scope.names,y.2=.local→scope.names.lookup y.1=some .local)
  (hcl:∀y c,cl.lookup y=some c→X.env.cells.lookup y=some c) (hhas:∀y,((relabel scope X.env).names.lookup y=some .cell∨(relabel scope X.env).names.lookup y=some .free)→∃c,cl.lookup y=some c)
  (hlen:N.length=k+js.length) (hcap:∀i j,js[i]? =some j→∃y,N[k+i]? =some y∧Cap X (relabel scope X.env) cl j y)
  (hs:∀x,foldedSetIterable iter X.env x=pure x:=by intro _;rfl):PE X (.ListComp elt [⟨tg,iter,[cd],0⟩] scope pos) (Mx wi g tc te k js):=by
 intro pins s σ H Q I h
 rw [eval_ListComp]
 refine Mr k js hi hg hd he hcalm hclos hkind hcell hnames hcl hhas hlen hcap hs I h fun s6 H5 D C m I6 n6 z1 z2 z3 z4 z5 q=>⟨m,n6,fun h7 sb7=>⟨.ref D,H5,?_,rfl,q⟩⟩
 exact I6.turned (t':=s6.toks) (fun b o hb e=>(sb7.2 b hb).trans e) z1 z3.symm.symm (.inr z2) z4 z5
theorem Wu {elt iter tg cd:Expr}{scope:Scope}{pos py spos:Pos}{i:Nat}{y:Str}{wi:TI}{te:TE}{tc:TT}{g:TG}{N:List Str}{cl:List (Str×Addr)}(k:Nat)(js:List Nat)(hi:PI X tg iter wi)
  (hg:∀C s H fp,PG (G5 X N s H (compEnvC scope cl C X.env) fp) tg g) (hd:∀C s H fp,PT (G5 X N s H (compEnvC scope cl C X.env) fp) cd tc) (he:∀C s H fp,PE (G5 X N s H (compEnvC scope cl C X.env) fp) elt te) (hcalm:X.calm=true)
  (hclos:closureFor scope X.env=pure cl) (hkind:scope.kind=.function) (hcell:∀y∈scope.names,y.2≠.cell) (hnames:∀y∈scope.names,y.2=.local→scope.names.lookup y.1=some .local)
  (hcl:∀y c,cl.lookup y=some c→X.env.cells.lookup y=some c) (hhas:∀y,((relabel scope X.env).names.lookup y=some .cell∨(relabel scope X.env).names.lookup y=some .free)→∃c,cl.lookup y=some c)
  (hlen:N.length=k+js.length) (hcap:∀i j,js[i]? =some j→∃y,N[k+i]? =some y∧Cap X (relabel scope X.env) cl j y)
  (hs:∀x,foldedSetIterable iter X.env x=pure x) (hN:X.N.Nodup) (hi':X.N[i]? =some y) (hy:X.env.scope.names.lookup y=some .local) (hsw:swapsWith (.ListComp elt [⟨tg,iter,[cd],0⟩] scope pos) (some (.Name y py)) spos.line X.env=pure true) :
  PS X (.Assign [.Name y py] (.ListComp elt [⟨tg,iter,[cd],0⟩] scope pos) spos) (Abh (Mx wi g tc te k js) (U7 i)):=by
 intro pins s σ H D I h
 rw [exec_Assign_Name_used _ _ _ _ hsw]
 refine wpAny_bind (wpAny_standAt (wpAny_bind ?_))
 show wpAny _ X.A (do let _ ←comprehension (.ListComp elt [⟨tg,iter,[cd],0⟩] scope pos) scope X.env _ (newList []) false (eval iter X.env) (some (assign (.Name y py) X.env))) _ _ s
 refine wpAny_bind (wpAny_mono (Mr k js hi hg hd he hcalm hclos hkind hcell hnames hcl hhas hlen hcap hs (use:=some (assign (.Name y py) X.env)) (Qv:=fun _ s'=>SP X pins D .next s') I h fun s6 H5 D' C m I6 n6 z1 z2 z3 z4 z5 q=>?_)
  (fun _ s' hq=>wpAny_pure (wpAny_pure hq)) fun _ _ e=>e)
 show wpAny _ X.A (assign (.Name y py) X.env (.ref D')) _ _ _
 refine wpAny_assign_Name (Nw I6 hN hi' (.inl hy) (v:=.ref D') rfl (fun s8 I8 ⟨a,sb,ha⟩=>?_) (.inr hy))
 have na:C≠a:=by
  rcases ha with rfl|ha
  ·exact z3
  ·exact Ne.symm (z4 _ _ ha)
 exact ⟨m,n6.sameBut sb na,fun h9 sb9=>⟨_,H5,I8.turned (t':=s8.toks) (fun b o hb e=>(sb9.2 b hb).trans e) z1 z3 (.inr z2) z4 z5,q⟩⟩
theorem Zw {elt iter tg cd:Expr}{scope:Scope}{pos:Pos}{wi:TI}{te:TE}{tc:TT}{g:TG}{cl:List (Str×Addr)}(own ys:List Str)(js:List Nat)(hclos:closureFor scope X.env=pure cl)(hi:PI X tg iter wi)
  (hg:∀C s H fp,PG (G5 X (own++ys) s H (compEnvC scope cl C X.env) fp) tg g) (hd:∀C s H fp,PT (G5 X (own++ys) s H (compEnvC scope cl C X.env) fp) cd tc) (he:∀C s H fp,PE (G5 X (own++ys) s H (compEnvC scope cl C X.env) fp) elt te) (hcalm:X.calm=true) (hkind:scope.kind=.function)
  (hcell:(scope.names.all fun y=>y.2 != .cell)=true) (hnames:(scope.names.all fun y=>y.2 != .local||scope.names.lookup y.1==some .local)=true) (hfr:(scope.names.all fun y=>y.2 != .free||(cl.map (·.1)).contains y.1)=true)
  (hcl:Ma X.env.cells cl) (hcap:No X (relabel scope X.env) cl ys js) (hs:∀x,foldedSetIterable iter X.env x=pure x:=by intro _;rfl) :
  PE X (.ListComp elt [⟨tg,iter,[cd],0⟩] scope pos) (Mx wi g tc te own.length js):=by
 rw [List.all_eq_true] at hcell hnames hfr
 have hc:∀y∈scope.names,y.2≠.cell:=fun y hy z=>by
  have:=hcell y hy
  rw [z] at this
  cases this
 refine Abi own.length js hi hg hd he hcalm hclos hkind hc (fun y hy z=>?_) hcl.at (fun y h=>?_) (by rw [List.length_append,hcap.len]) (fun i j e=>?_) hs
 ·have:=hnames y hy
  rw [z] at this
  simpa using this
 ·obtain ⟨z,hz,rfl,hk⟩:∃z∈scope.names,z.1=y∧(z.2=.free∨z.2=.cell):=by
   rcases h with h|h
   ·exact Bx h (.inl rfl)
   ·exact Bx h (.inr rfl)
  rcases hk with hk|hk
  ·have:=hfr z hz
   rw [hk] at this
   exact Fy (by simpa using this)
  ·exact absurd hk (hc z hz)
 ·obtain ⟨y,h1,h2⟩:=hcap.at i j e
  exact ⟨y,by rw [List.getElem?_append_right (Nat.le_add_right _ _),Nat.add_sub_cancel_left];exact h1,h2⟩
theorem N6 {elt iter tg cd:Expr}{scope:Scope}{pos py spos:Pos}{i:Nat}{y:Str}{wi:TI}{te:TE}{tc:TT}{g:TG}{cl:List (Str×Addr)}(own ys:List Str)(js:List Nat)(hclos:closureFor scope X.env=pure cl)(hi:PI X tg iter wi)
  (hg:∀C s H fp,PG (G5 X (own++ys) s H (compEnvC scope cl C X.env) fp) tg g) (hd:∀C s H fp,PT (G5 X (own++ys) s H (compEnvC scope cl C X.env) fp) cd tc) (he:∀C s H fp,PE (G5 X (own++ys) s H (compEnvC scope cl C X.env) fp) elt te) (hcalm:X.calm=true) (hkind:scope.kind=.function)
  (hcell:(scope.names.all fun y=>y.2 != .cell)=true) (hnames:(scope.names.all fun y=>y.2 != .local||scope.names.lookup y.1==some .local)=true) (hfr:(scope.names.all fun y=>y.2 != .free||(cl.map (·.1)).contains y.1)=true)
  (hcl:Ma X.env.cells cl) (hcap:No X (relabel scope X.env) cl ys js) (hN:X.N.Nodup) (hi':X.N[i]? =some y) (hy:X.env.scope.names.lookup y=some .local) (hs:∀x,foldedSetIterable iter X.env x=pure x:=by intro _;rfl) (hsw:swapsWith (.ListComp elt [⟨tg,iter,[cd],0⟩] scope pos) (some (.Name y py)) spos.line X.env=pure true:=by rfl) :
  PS X (.Assign [.Name y py] (.ListComp elt [⟨tg,iter,[cd],0⟩] scope pos) spos) (Abh (Mx wi g tc te own.length js) (U7 i)):=by
 rw [List.all_eq_true] at hcell hnames hfr
 have hc:∀y∈scope.names,y.2≠.cell:=fun y hy z=>by
  have:=hcell y hy
  rw [z] at this
  cases this
 refine Wu own.length js hi hg hd he hcalm hclos hkind hc (fun y hy z=>?_) hcl.at (fun y h=>?_) (by rw [List.length_append,hcap.len]) (fun i j e=>?_) hs hN hi' hy hsw
 ·have:=hnames y hy
  rw [z] at this
  simpa using this
 ·obtain ⟨z,hz,rfl,hk⟩:∃z∈scope.names,z.1=y∧(z.2=.free∨z.2=.cell):=by
   rcases h with h|h
   ·exact Bx h (.inl rfl)
   ·exact Bx h (.inr rfl)
  rcases hk with hk|hk
  ·have:=hfr z hz
   rw [hk] at this
   exact Fy (by simpa using this)
  ·exact absurd hk (hc z hz)
 ·obtain ⟨y,h1,h2⟩:=hcap.at i j e
  exact ⟨y,by rw [List.getElem?_append_right (Nat.le_add_right _ _),Nat.add_sub_cancel_left];exact h1,h2⟩
end
end Lw
end
section
namespace Lw
open PySem PySem.Spec PyProof.Rows L2
section
variable {M:Model}{A:Around}{E:Value→Shared→Prop}{s:Shared}
end
section
variable {X:Cx}
end
end Lw
end
section
namespace Lw
open PySem PySem.Spec PyProof.Rows L2
def dd (l:List Str)(x:Str):List Str:=if x∈l then l else l++[x]
def lS (a b:Str):Prop:=a.cps.toList<b.cps.toList
instance:DecidableRel lS:=fun a b=>inferInstanceAs (Decidable (a.cps.toList<b.cps.toList))
theorem Uj (a:Str):¬lS a a:=List.lt_irrefl _
theorem Adv {a b c:Str}(h:lS a b)(h':lS b c):lS a c:=List.lt_trans h h'
theorem Sy {a b:Str}(h:¬lS a b)(h':¬lS b a):a=b:=by
 have e:=List.le_antisymm (List.not_lt.mp h') (List.not_lt.mp h)
 cases a;cases b
 simpa using Array.toList_inj.mp e
theorem Ah7 {a b:Str}(h:lS a b):¬lS b a:=List.lt_asymm h
abbrev Inc (l:List Str):Prop:=l.Pairwise lS
theorem Ix:∀{l m:List Str},Inc l→Inc m→(∀x,x∈l↔x∈m)→l=m
 |[],[],_,_,_=>rfl
 |[],b::m,_,_,h=>absurd ((h b).mpr (List.mem_cons_self ..)) (by simp)
 |a::l,[],_,_,h=>absurd ((h a).mp (List.mem_cons_self ..)) (by simp)
 | a::l,b::m,h1,h2,h=>by
  have ⟨a1,a2⟩:=List.pairwise_cons.mp h1
  have ⟨b1,b2⟩:=List.pairwise_cons.mp h2
  have e:a=b:=by
   rcases List.mem_cons.mp ((h a).mp (List.mem_cons_self ..)) with e|e
   ·exact e
   ·rcases List.mem_cons.mp ((h b).mpr (List.mem_cons_self ..)) with f|f
    ·exact f.symm
    ·exact absurd (b1 a e) (Ah7 (a1 b f))
  subst e
  rw [Ix a2 b2 fun x=>⟨fun hx=>?_,fun hx=>?_⟩]
  ·rcases List.mem_cons.mp ((h x).mp (List.mem_cons_of_mem _ hx)) with e|e
   ·subst e
    exact absurd (a1 x hx) (Uj x)
   ·exact e
  ·rcases List.mem_cons.mp ((h x).mpr (List.mem_cons_of_mem _ hx)) with e|e
   ·subst e
    exact absurd (b1 x hx) (Uj x)
   ·exact e
def Rg (x:Str):List Str→List Str
 |[]=>[x]
 |y::l=>if lS x y then x::y::l else if lS y x then y::Rg x l else y::l
theorem Mv {x z:Str}:∀{l:List Str},z∈Rg x l↔z=x∨z∈l
 |[]=>by simp [Rg]
 | y::l=>by
  unfold Rg
  split
  ·simp
  ·split
   ·simp only [List.mem_cons,Mv (l:=l)]
    constructor
    ·rintro (h|h|h)
     ·exact .inr (.inl h)
     ·exact .inl h
     ·exact .inr (.inr h)
    ·rintro (h|h|h)
     ·exact .inr (.inl h)
     ·exact .inl h
     ·exact .inr (.inr h)
   ·rename_i h1 h2
    have e:=Sy h1 h2
    subst e
    simp
theorem R3 {x:Str}:∀{l:List Str},Inc l→Inc (Rg x l)
 |[],_=>List.pairwise_singleton ..
 | y::l,h=>by
  have ⟨h1,h2⟩:=List.pairwise_cons.mp h
  unfold Rg
  split
  ·rename_i c
   exact List.pairwise_cons.mpr ⟨fun z hz=>(List.mem_cons.mp hz).elim (fun e=>e▸c) (fun e=>Adv c (h1 z e)),h⟩
  ·split
   ·rename_i c
    exact List.pairwise_cons.mpr ⟨fun z hz=>(Mv.mp hz).elim (fun e=>e▸c) (h1 z),R3 h2⟩
   ·exact h
def Qq (l:List Str):List Str:=l.foldr Rg []
theorem Ch:∀(l:List Str),Inc (Qq l)
 |[]=>List.Pairwise.nil
 |x::l=>R3 (Ch l)
theorem Dx {x:Str}:∀{l:List Str},x∈Qq l↔x∈l
 |[]=>Iff.rfl
 |y::l=>by
  show x∈Rg y (Qq l)↔_
  rw [Mv,Dx (l:=l),List.mem_cons]
theorem Lp {l:List Str}{x z:Str}:z∈dd l x↔z∈l∨z=x:=by
 unfold dd
 split
 ·rename_i h
  constructor
  ·exact .inl
  ·rintro (h'|rfl)
   ·exact h'
   ·exact h
 ·simp
theorem G2 {l:List Str}{x:Str}(h:l.Nodup):(dd l x).Nodup:=by
 unfold dd
 split
 ·exact h
 ·rename_i c
  rw [List.nodup_append]
  exact ⟨h,List.nodup_cons.mpr ⟨by simp,List.nodup_nil⟩,fun a ha b hb e=>by
   rw [List.mem_singleton] at hb
   subst hb e
   exact c ha⟩
def Wk (val:Nat→Str)(i:Nat):List Str:=((List.range i).map val).foldl dd []
theorem Ij (val:Nat→Str)(i:Nat):Wk val (i+1)=dd (Wk val i) (val i):=by
 unfold Wk
 rw [List.range_succ,List.map_append,List.foldl_append]
 rfl
theorem Jz (val:Nat→Str):∀i,(Wk val i).Nodup
 |0=>List.nodup_nil
 |i+1=>by
  rw [Ij]
  exact G2 (Jz val i)
theorem V1 {val:Nat→Str}{x:Str}:∀{i:Nat},x∈Wk val i↔∃j,j<i∧val j=x
 |0=>⟨fun h=>(by cases h),fun ⟨j,h,_⟩=>absurd h (Nat.not_lt_zero _)⟩
 | i+1=>by
  rw [Ij,Lp,V1 (i:=i)]
  constructor
  ·rintro (⟨j,h,e⟩|e)
   ·exact ⟨j,Nat.lt_succ_of_lt h,e⟩
   ·exact ⟨i,Nat.lt_succ_self _,e.symm⟩
  ·rintro ⟨j,h,e⟩
   rcases Nat.lt_succ_iff_lt_or_eq.mp h with h|rfl
   ·exact .inl ⟨j,h,e⟩
   ·exact .inr e.symm
theorem Jg {l:List Str}(h:l.Pairwise fun a b=>¬lS b a)(n:l.Nodup):Inc l:=by
 induction l with
 |nil=>exact List.Pairwise.nil
 |cons a l ih=>
  have ⟨h1,h2⟩:=List.pairwise_cons.mp h
  have ⟨n1,n2⟩:=List.nodup_cons.mp n
  refine List.pairwise_cons.mpr ⟨fun b hb=>?_,ih h2 n2⟩
  refine Decidable.byContradiction fun c=>n1 ?_
  have e:=Sy c (h1 b hb)
  exact e▸hb
theorem Hj {α:Type}:∀(l:List α) (i:Nat) (x:α),l[i]? =some x→(x::l.eraseIdx i).Perm l
 |[],i,x,h=>by simp at h
 |a::l,0,x,h=>by
  simp at h
  subst h
  exact List.Perm.refl _
 |a::l,i+1,x,h=>by
  simp only [List.getElem?_cons_succ] at h
  show (x::a::l.eraseIdx i).Perm (a::l)
  exact (List.Perm.swap ..).trans ((Hj l i x h).cons a)
theorem Gz {α:Type}[DecidableEq α]:∀{l m:List α},l.Nodup→(∀x∈l,x∈m)→l.length≤m.length
 |[],m,_,_=>Nat.zero_le _
 |a::l,m,n,h=>by
  have ⟨n1,n2⟩:=List.nodup_cons.mp n
  have ha:a∈m:=h a (List.mem_cons_self ..)
  have:=Gz (l:=l) (m:=m.erase a) n2 fun x hx=>(List.mem_erase_of_ne (fun e:x=a=>n1 (e▸hx))).mpr (h x (List.mem_cons_of_mem _ hx))
  rw [List.length_erase_of_mem ha] at this
  have:0<m.length:=List.length_pos_of_mem ha
  rw [List.length_cons]
  omega
theorem D6 {l:List Str}(h:Inc l):l.Nodup:=List.Pairwise.imp (S:=fun a b=>a≠b) (fun {a b} (h:lS a b) (e:a=b)=>Uj a (e▸h)) h
theorem U3 {names:List Str}{x:Str}:x∈Wk (fun i=>names.getD i ⟨#[]⟩) names.length↔x∈names:=by
 rw [V1]
 constructor
 ·rintro ⟨j,h,rfl⟩
  rw [List.getD_eq_getElem?_getD,List.getElem?_eq_getElem h]
  exact List.getElem_mem h
 ·intro h
  obtain ⟨j,hj,e⟩:=List.mem_iff_getElem.mp h
  exact ⟨j,hj,by rw [List.getD_eq_getElem?_getD,List.getElem?_eq_getElem hj];exact e⟩
theorem Acf (names:List Str):(Wk (fun i=>names.getD i ⟨#[]⟩) names.length).length≤(Qq names).length:=
 Gz (Jz _ _) fun x hx=>Dx.mpr (U3.mp hx)
end Lw
end
section
namespace Lw
open PySem PySem.Spec PyProof.Rows L2
def Ik (w:World):Bool:=w.params.followText "set-order"
def tx (e:Int×Value):Str:=strOf e.2
structure Fu (prog:Program)(w:World)(o:Obj)(ss:List Str)(es:Array (Int×Value))(ep:Nat)(t:SetTable):Prop where
 ex:o.ExactSet
 dat:o.data=.set es ep t
 el:ElemsOf (PySem.strKind prog w) es.toList
 pm:(es.toList.map tx).Perm ss
 fit:t.fits es.size=true
 bd:es.size<scanBound
 led:t.led=!Ik w
 pl:0<es.size→t.plain=false
def L4 (prog:Program)(w:World)(h:Heap)(a:Addr)(ss:List Str):Prop:=∃o es ep t,h.get? a=some o∧Fu prog w o ss es ep t
theorem Fu.size {prog:Program}{w:World}{o:Obj}{ss:List Str}{es:Array (Int×Value)}{ep:Nat}{t:SetTable}(S:Fu prog w o ss es ep t):es.size=ss.length:=by
 rw [←S.pm.length_eq,List.length_map,Array.length_toList]
theorem Ow {t t':SetTable}{hs:Array Int}{n:Nat}{o:Array Nat}(h:t.relaid hs n=some (t',o)):t'.led=t.led∧t'.plain=t.plain:=by
 unfold SetTable.relaid SetTable.laid at h
 cases hl:SetTable.layClean (SetTable.sizeAbove n-1) hs with
 |none=>
  rw [hl] at h
  cases h
 |some ow=>
  rw [hl] at h
  cases h
  exact ⟨rfl,rfl⟩
theorem L1 (t:SetTable)(es:Array (Int×Value))(n:Nat):(relayAll t es n).2.1.led=t.led∧(t.plain=false→(relayAll t es n).2.1.plain=false):=by
 unfold relayAll
 split
 ·rename_i t' o e
  obtain ⟨h1,h2⟩:=Ow e
  dsimp only
  split
  ·exact ⟨h1,fun h=>h2.trans h⟩
  ·exact ⟨rfl,fun _=>rfl⟩
 ·exact ⟨rfl,fun _=>rfl⟩
theorem Na (t:SetTable)(n:Nat):(t.orStandIn n).led=t.led:=by
 unfold SetTable.orStandIn
 split<;>rfl
theorem To (t:SetTable)(es:Array (Int×Value))(h:Int)(x:Value):(layNew t es h x).2.1.led=t.led:=by
 unfold layNew
 split
 ·exact Na _ _
 ·rfl
theorem Adf {prog:Program}{w:World}{k:Str}{e:Int×Value}(h:(PySem.strKind prog w).is k e.2=true):tx e=k:=by
 obtain ⟨t,z⟩:=Value.isStrOf_shape h
 unfold tx
 rw [z]
 rfl
theorem Yq {prog:Program}{w:World}{h:Heap}{a:Addr}{o:Obj}{ss ss':List Str}{es es':Array (Int×Value)}{ep:Nat}{t t':SetTable}(ho:h.get? a=some o)(S:Fu prog w o ss es ep t)
  (e1:ElemsOf (PySem.strKind prog w) es'.toList) (e2:(es'.toList.map tx).Perm ss') (e3:t'.fits es'.size=true) (e4:es'.size<scanBound) (e5:t'.led=!Ik w) (e6:t'.plain=false) :
  ∃o',(h.update a (Obj.putSet es' t')).get? a=some o'∧Fu prog w o' ss' es' (ep+1) t':=by
 have g:=Heap.get?_update_self (Obj.putSet es' t') ho (by rw [putSet_of es' t' S.dat];rfl)
 rw [putSet_of es' t' S.dat] at g
 exact ⟨_,g,⟨S.ex,rfl,e1,e2,e3,e4,e5,fun _=>e6⟩⟩
section
variable {prog:Program}{w:World}{A:Around}{E:Value→Shared→Prop}{s:Shared}
theorem Ade {f:Bool→Sem Unit}(hf:∀(b:Bool) (s1:Shared) (Q':Unit→Shared→Prop),Q' () s1→wpAny (model prog w) A (f b) Q' E s1){a:Addr}{o:Obj}{ss ss':List Str}{es es':Array (Int×Value)}{ep:Nat}{t t':SetTable}
  (ho:s.heap.get? a=some o) (S:Fu prog w o ss es ep t) (e1:ElemsOf (PySem.strKind prog w) es'.toList) (e2:(es'.toList.map tx).Perm ss') (e3:t'.fits es'.size=true) (e4:es'.size<scanBound) (e5:t'.led=!Ik w)
  (e6:t'.plain=false) {wd:Bool} {R:Option Bool→Shared→Prop} (q:∀g,Heap.SameBut a s.heap g→L4 prog w g a ss'→R (some true) { s with heap:=g }) :
  wpAny (model prog w) A (do
   storeSet a es' t'
   if (!wd&&t'.tooFull)=true then do { f (relayAll t' es' (SetTable.grown es'.size)).2.2;storeSet a (relayAll t' es' (SetTable.grown es'.size)).1 (relayAll t' es' (SetTable.grown es'.size)).2.1;pure (some true) } else pure (some true)) R E s:=by
 refine wpAny_bind (wpAny_storeSet_of ho S.dat ?_ (fits_of_scanBound e4))
 obtain ⟨o1,g1,S1⟩:=Yq ho S e1 e2 e3 e4 e5 e6
 have b1:=Heap.SameBut.update s.heap a (Obj.putSet es' t')
 split
 ·have r1:=relayAll_perm t' es' (SetTable.grown es'.size)
  have r2:=relayAll_fits t' es' (SetTable.grown es'.size)
  have r3:=L1 t' es' (SetTable.grown es'.size)
  generalize relayAll t' es' (SetTable.grown es'.size)=L at r1 r2 r3 ⊢
  obtain ⟨fs,u,gv⟩:=L
  dsimp only at r1 r2 r3 ⊢
  have hz:fs.size=es'.size:=by rw [←Array.length_toList,r1.length_eq,Array.length_toList]
  have hb:fs.size<scanBound:=by rw [hz];exact e4
  refine wpAny_bind (hf _ _ _ (wpAny_bind (wpAny_storeSet_of g1 S1.dat ?_ (fits_of_scanBound hb))))
  obtain ⟨o2,g2,S2⟩:=Yq g1 S1 (e1.perm r1) ((r1.map tx).trans e2) r2 hb (r3.1.trans e5) (r3.2 e6)
  exact wpAny_pure (q _ (b1.trans (Heap.SameBut.update _ a _)) ⟨o2,fs,_,u,g2,S2⟩)
 ·exact wpAny_pure (q _ b1 ⟨o1,es',_,t',g1,S1⟩)
theorem Alg {a:Addr}{ss:List Str}{x:Str}{tk:Tok}{Q:Bool→Shared→Prop}(hS:L4 prog w s.heap a ss)(room:ss.length+1<scanBound)
  (q:∀b g,Heap.SameBut a s.heap g→L4 prog w g a (dd ss x)→Q b { s with heap:=g }):wpAny (model prog w) A (setAddHashed a (.str x tk) ((PySem.strKind prog w).hash x)) Q E s:=by
 obtain ⟨o,es,ep,t,ho,S⟩:=hS
 have key:(PySem.strKind prog w).is x (.str x tk)=true:=by
  show (x==x)=true
  simp
 have scn:(Value.str x tk).scannable=true:=rfl
 have hz:=S.size
 unfold setAddHashed setAddHashedIn
 refine wpAny_holding (wpAny_bind (wpAny_setState_of ho S.dat S.fit ?_))
 dsimp only
 rw [byScan_of scn S.bd S.el]
 simp only [↓reduceIte]
 unfold setAddByScan
 refine wpAny_bind (wpAny_bind (wpAny_rule (wpAny_bind (wpAny_setScan_of (knd:=PySem.strKind prog w) key ho S.dat S.fit S.el ?_))))
 cases hr:List.findIdx? (fun e=>(PySem.strKind prog w).is x e.2) es.toList with
 |some j=>
  dsimp only
  obtain ⟨hj,hp,_⟩:=List.findIdx?_eq_some_iff_getElem.mp hr
  have hx:x∈ss:=S.pm.mem_iff.mp (List.mem_map.mpr ⟨_,List.getElem_mem hj,Adf hp⟩)
  refine wpAny_pure (wpAny_pure ?_)
  refine q false s.heap (Heap.SameBut.refl a s.heap) ⟨o,es,ep,t,ho,?_⟩
  rw [show dd ss x=ss from if_pos hx]
  exact S
 | none=>
  dsimp only
  have hx:x∉ss:=fun h=>by
   obtain ⟨e,he,z⟩:=List.mem_map.mp (S.pm.mem_iff.mpr h)
   obtain ⟨⟨k,hk,_⟩,_⟩:=S.el e he
   have z':=(Adf hk).symm.trans z
   subst z'
   have:=List.findIdx?_eq_none_iff.mp hr e he
   rw [hk] at this
   cases this
  have gw:∀(b:Bool) (s1:Shared) (Q':Unit→Shared→Prop),Q' () s1→wpAny (model prog w) A (match b with|true=>rule "set.scan.the-table-gave-way"|false=>pure ()) Q' E s1:=fun b s1 Q' h=>by
   cases b with
   |true=>exact wpAny_rule h
   |false=>exact wpAny_pure h
  have r1:=layNew_perm t es ((PySem.strKind prog w).hash x) (.str x tk)
  have r2:=layNew_fits t es ((PySem.strKind prog w).hash x) (.str x tk)
  have r3:=To t es ((PySem.strKind prog w).hash x) (.str x tk)
  generalize layNew t es ((PySem.strKind prog w).hash x) (.str x tk)=L at r1 r2 r3 ⊢
  obtain ⟨fs,u,wd,gv⟩:=L
  dsimp only at r1 r2 r3 ⊢
  rw [Array.toList_push] at r1
  have f1:ElemsOf (PySem.strKind prog w) fs.toList:=(S.el.push key scn).perm r1
  have f2:(fs.toList.map tx).Perm (dd ss x):=by
   rw [show dd ss x=ss++[x] from if_neg hx]
   refine (r1.map tx).trans ?_
   rw [List.map_append]
   exact S.pm.append_right _
  have fz:fs.size=es.size+1:=by rw [←Array.length_toList,r1.length_eq,List.length_append,Array.length_toList];rfl
  have fb:fs.size<scanBound:=by rw [fz,hz];exact room
  have fin:∀g,Heap.SameBut a s.heap g→L4 prog w g a (dd ss x)→wpAny (model prog w) A (pure true) Q E { s with heap:=g }:=fun g b h=>wpAny_pure (q true g b h)
  refine wpAny_bind (gw _ _ _ ?_)
  split
  ·refine wpAny_bind ?_
   rw [hashByValue_scannable 8 scn]
   refine wpAny_pure ?_
   refine Ade gw ho S f1 f2 (SetTable.fits_plain_off r2) fb (r3.trans S.led) rfl ?_
   intro g b h
   dsimp only
   exact fin g b h
  ·rename_i np
   refine wpAny_bind (wpAny_pure ?_)
   simp only [↓reduceIte]
   refine Ade gw ho S f1 f2 r2 fb (r3.trans S.led) (by simpa using np) ?_
   intro g b h
   dsimp only
   exact fin g b h
theorem Uv (val:Nat→Str):∀i,(Wk val i).length≤i
 |0=>Nat.le_refl _
 | i+1=>by
  have h:=Uv val i
  rw [Ij]
  unfold dd
  split
  ·omega
  ·rw [List.length_append,List.length_singleton]
   omega
theorem Ahq {R:Result→Shared→Prop}{I:Addr}{fp wr:List Addr}{G:Array GenState→Array GenState→Prop}{n:Nat}{P:Nat→Value→Prop}{St:Nat→Shared→Prop}(W:WalksS prog w A.in1 I fp wr G n P St)(S:Addr)(nS:S∉fp)
  (val:Nat→Str) (hv:∀i v,P i v→∃t,v=.str (val i) t) (hb:n+1<scanBound):∀(k i:Nat) (s:Shared),n-i=k→i≤n→St i s→L4 prog w s.heap S (Wk val i) →
   (∀s',Moved (S::wr) G s s'→L4 prog w s'.heap S (Wk val n)→R (.ok (.ret .none)) s')→codeAny (model prog w) A (.builtin "set.update.loop" ⟨[.ref S,.ref I],[]⟩) R s:=by
 have nw:S∉wr:=fun h=>nS (W.sub _ h)
 have sub:∀b∈wr,b∈S::wr:=fun b hb=>List.mem_cons_of_mem _ hb
 have keepS:∀{s s':Shared} {ss:List Str},Moved wr G s s'→L4 prog w s.heap S ss→L4 prog w s'.heap S ss:=fun m ⟨o,es,ep,t,h,z⟩=>⟨o,es,ep,t,m.heap S _ nw h,z⟩
 intro k
 induction k with
 |zero=>
  intro i s hk hi st hS hR
  have e:i=n:=by omega
  subst e
  refine codeAny_builtin PyProof.Rows.F.entry_set_update_loop ?_
  rw [Around.under_plainId PyProof.Rows.F.plain_set_update_loop _]
  show wpAny _ A.in1 (pyNext (.ref I) >>= _) _ _ s
  refine wpAny_bind (W.done s _ _ st fun s' m=>wpAny_pure (hR s' (m.mono sub) (keepS m hS)))
 | succ k ih=>
  intro i s hk hi st hS hR
  have lt:i<n:=by omega
  refine codeAny_builtin PyProof.Rows.F.entry_set_update_loop ?_
  rw [Around.under_plainId PyProof.Rows.F.plain_set_update_loop _]
  show wpAny _ A.in1 (pyNext (.ref I) >>= _) _ _ s
  refine wpAny_bind (W.item i s _ _ lt st fun v s' hP st' m=>?_)
  obtain ⟨t,rfl⟩:=hv i v hP
  have hS':=keepS m hS
  show wpAny _ A.in1 (holding [Value.str (val i) t] (setAdd S (.str (val i) t)) >>= _) _ _ s'
  refine wpAny_bind (wpAny_holding ?_)
  unfold setAdd
  refine wpAny_holding (wpAny_bind ((PySem.strKind prog w).pyHash (k:=val i) (by show (val i==val i)=true;simp) ?_))
  have room:(Wk val i).length+1<scanBound:=by have:=Uv val i;omega
  refine Alg (s:={ s' with toks:=s'.toks+1 }) hS' room fun b g sb hS2=>?_
  rw [←Ij] at hS2
  refine wpAny_pure ⟨plainId_quiet PyProof.Rows.F.plain_set_update_loop _,ih (i+1) _ (by omega) lt (W.frame _ s' _ _ st' (Nat.le_succ _) fun c hc o e=>?_) hS2 fun s2 m2 z2=>?_⟩
  ·rw [sb.2 c (fun h:c=S=>nS (h▸hc))]
   exact e
  ·refine hR s2 (Moved.trans W.gtrans ((m.mono sub).then_heap (Nat.le_succ _) fun c o hc e=>?_) m2) z2
   rw [sb.2 c (fun h:c=S=>hc (by rw [h];exact List.mem_cons_self))]
   exact e
def Zs (w:World):Obj:={ cls:=.type "set",dict:=none,data:=.set #[] 0 (.fresh 0 0 (!Ik w)) }
theorem fsS (h:Heap):L4 prog w (h.push (Zs w)) h.objs.size []:=
 ⟨Zs w,#[],0,_,Heap.get?_push_size _ rfl,⟨⟨rfl,rfl,rfl⟩,rfl,fun e he=>by simp at he,List.Perm.refl _,rfl,by decide,rfl,fun h=>absurd h (by decide)⟩⟩
theorem Yi (v:Value){Q:Value→Shared→Prop}(q:Q (.ref s.heap.objs.size) { s with heap:=s.heap.push (Zs w) }):codeAny (model prog w) A (.call (.builtin "set.__new__") ⟨[.type "set",v],[]⟩) (wants Q E) s:=by
 refine codeAny_of_tree ?_
 show wpAny _ A.in1 (do { checkBuiltinCall "set.__new__" ⟨[.type "set",v],[]⟩;again (.builtin "set.__new__" ⟨[.type "set",v],[]⟩) }) _ _ s
 refine wpAny_bind (wpAny_of_eq (PySem.F.newCall_set_1 v) (wpAny_pure ⟨plainId_quiet PySem.F.plain_set_new _,codeAny_builtin PySem.F.entry_set_new ?_⟩))
 rw [Around.under_plainId PySem.F.plain_set_new _];unfold Builtin.«set.__new__» Builtin.Frozenset.newClass
 have sub:=sub_set_self;obtain ⟨hp,g,d,tk,os⟩:=s;dsimp only
 wp_walk
 refine wpAny_askSetting (wpAny_pure ?_);dsimp only;simp only [newObj]
 refine wpAny_bind (wpAny_alloc (wpAny_pure (wpAny_pure ?_)))
 exact q
theorem Vv:∀{vs:List Value} {ss:List Str},StrsAre vs ss→∀(i:Nat) (v:Value),vs[i]? =some v→∃t,v=.str (ss.getD i ⟨#[]⟩) t
 |_,_,.nil,i,v,h=>by simp at h
 |_,_,.cons x t r,0,v,h=>by
  simp at h
  exact ⟨t,h.symm⟩
 |_,_,.cons x t r,i+1,v,h=>by
  simp only [List.getElem?_cons_succ] at h
  obtain ⟨t',e⟩:=Vv r i v h
  exact ⟨t',by rw [e];rfl⟩
theorem Wt {l:Addr}{vs:List Value}{ss:List Str}{Q:Value→Shared→Prop}(hh:A.handled=none)(hl:s.heap.IsList l vs.toArray)(hi:StrsAre vs ss)(hb:vs.length+1<scanBound)
  (q:∀g tk,L4 prog w g s.heap.objs.size (Wk (fun i=>ss.getD i ⟨#[]⟩) vs.length)→(∀b o,s.heap.get? b=some o→g.get? b=some o)→Q (.ref s.heap.objs.size) { s with heap:=g,toks:=tk }) :
  wpAny (model prog w) A (call (.type "set") [.ref l]) Q E s:=by
 obtain ⟨c,tl,mro⟩:=PySem.F.called_set.mro
 have made:=PySem.F.called_set.made
 have sub:=PySem.F.called_set.sub
 refine wpAny_call (codeAny_of_tree ?_)
 show wpAny _ _ (callAny (.type "set") _) _ _ _
 refine wpAny_pure ⟨Code.quiet_builtin _ (by decide +kernel),codeAny_builtin PySem.F.entry_type_call ?_⟩
 rw [Around.under_plain (weight_type_call_type "set" [.ref l] []) rfl]
 have z1:=PySem.F.called_set.notType
 have z2:=PySem.F.called_set.canCreate
 have z3:=PySem.F.typeCall_set_1 (.ref l)
 repeat (any_goals (first|assumption|wp_step))
 refine codeAny_mono (Yi (.ref l) (E:=E) (Q:=fun v s1=>v=.ref s.heap.objs.size∧s1={ s with heap:=s.heap.push (Zs w) }) ⟨rfl,rfl⟩) fun r s1 hr=>?_
 match r,hr with
 |.error e,hr=>exact hr
 | .ok (.ret v),hr=>
  obtain ⟨rfl,rfl⟩:=hr
  have gS:(s.heap.push (Zs w)).get? s.heap.objs.size=some (Zs w):=Heap.get?_push_size _ rfl
  have ty:Shared.TypeIs { s with heap:=s.heap.push (Zs w) } (.ref s.heap.objs.size) "set":=⟨_,gS,rfl⟩
  have z4:=PySem.F.called_set.init.lookup
  have z5:=PySem.F.called_set.init.bind (.ref s.heap.objs.size)
  repeat (any_goals (first|assumption|wp_step))
  refine codeAny_mono (codeAny_call_builtin (R:=wants (fun r s2=>r=.none∧∃g tk,s2={ s with heap:=g,toks:=tk }∧L4 prog w g s.heap.objs.size (Wk (fun i=>ss.getD i ⟨#[]⟩) vs.length)∧∀b o,s.heap.get? b=some o→g.get? b=some o) E)
   PySem.F.called_set.init.plain PySem.F.entry_set_init (check_set_init_1 ty ?_)) fun r2 s2 hr2=>?_
  ·obtain ⟨ol,hol,hcl,nl,hdl⟩:=hl
   obtain ⟨oc,od,odt,osl⟩:=ol
   simp only at hcl hdl
   subst hcl hdl
   have hol1:(s.heap.push (Zs w)).get? l=some { cls:=.type "list",dict:=od,data:=.seq vs.toArray nl,slots:=osl }:=Heap.get?_push_of_some _ hol
   have gS1:(s.heap.push (Zs w)).get? s.heap.objs.size=some { cls:=.type "set",dict:=none,data:=.set #[] 0 (.fresh 0 0 (!Ik w)) }:=gS
   have z6:=PySem.F.sub_list_set
   have z7:=PySem.F.sub_list_frozenset
   have z8:(Value.type "list"==Value.type "dict")=false:=by decide
   have hl1:(s.heap.push (Zs w)).IsList l vs.toArray:=⟨_,hol1,rfl,nl,rfl⟩
   have lt:l<s.heap.objs.size:=Heap.lt_size hol
   clear gS hol
   generalize hg:s.heap.push (Zs w)=g0 at *
   unfold Builtin.«set.__init__» noKeywords Builtin.Frozenset.updateFrom
   generalize hPI:pyIter=PI
   wp_walk
   subst hPI
   refine wpAny_pyIter_list hl1 ?_
   refine wpAny_bind (wpAny_runValue ?_)
   have sz:g0.objs.size=s.heap.objs.size+1:=by rw [←hg];exact Heap.size_push ..
   have neI:l≠g0.objs.size:=by rw [sz];exact Nat.ne_of_lt (Nat.lt_succ_of_lt lt)
   have nf:s.heap.objs.size∉[g0.objs.size,l]:=by
    rw [sz]
    simp only [List.mem_cons,List.not_mem_nil,or_false,not_or]
    exact ⟨Nat.ne_of_lt (Nat.lt_succ_self _),Nat.ne_of_gt lt⟩
   have hval:∀(i:Nat) (v:Value),vs.toArray[i]? =some v→∃t,v=.str ((fun i=>ss.getD i ⟨#[]⟩) i) t:=fun i v hv=>Vv hi i v (by rw [←hv];simp)
   refine Ahq ((Walks.list (by simp [hh]) _ l neI vs.toArray).toS) s.heap.objs.size nf (fun i=>ss.getD i ⟨#[]⟩) hval (by simpa using hb) (vs.toArray.size-0) 0 _ (by omega) (Nat.zero_le _) ⟨⟨_,Heap.get?_push_size _ rfl,rfl,rfl⟩,hl1.push _⟩ ?hS0 ?hR
   case hS0=>
    obtain ⟨o,es,ep,t,h1,h2⟩:=fsS (prog:=prog) (w:=w) s.heap
    rw [hg] at h1
    exact ⟨o,es,ep,t,Heap.get?_push_of_some _ h1,h2⟩
   case hR=>
    intro s' m hS'
    obtain ⟨g',gn,dr,tk,os⟩:=s'
    obtain ⟨m1,m2,m3,m4,m5⟩:=m
    dsimp only at m1 m2 m3 m4 m5
    subst m2 m3 m4
    show wpAny _ _ _ _ _ _
    refine wpAny_pure ?_
    show wpAny _ _ (ret Value.none) _ _ _
    refine wpAny_pure ⟨rfl,g',tk,rfl,?_,fun b o e=>m1 b o ?_ (Heap.get?_push_of_some _ ?_)⟩
    ·simpa using hS'
    ·have hb:=Heap.lt_size e
     rw [sz]
     simp only [List.mem_cons,List.not_mem_nil,or_false,not_or]
     exact ⟨Nat.ne_of_lt hb,Nat.ne_of_lt (Nat.lt_succ_of_lt hb)⟩
    ·rw [←hg]
     exact Heap.get?_push_of_some _ e
  ·match r2,hr2 with
   |.error e,hr2=>exact hr2
   |.ok (.ret v),hr2=>
    obtain ⟨rfl,g,tk,rfl,h1,h2⟩:=hr2
    repeat (any_goals (first|assumption|wp_step))
    exact q _ _ h1 h2
   |.ok .next,hr2=>exact hr2.elim
   |.ok .brk,hr2=>exact hr2.elim
   |.ok .cont,hr2=>exact hr2.elim
 |.ok .next,hr=>exact hr.elim
 |.ok .brk,hr=>exact hr.elim
 |.ok .cont,hr=>exact hr.elim
end
end Lw
end
section
namespace Lw
open PySem PySem.Spec PyProof.Rows L2
theorem Be:Slot "set_iterator" "__next__" "set_iterator.__next__":=.of (owner:="set_iterator") (n:="__next__") (by rw [typeLookup_type,builtinLookup_eq_fast];kernel_rfl) (by decide +kernel) (by decide +kernel) (by decide +kernel) (by first|exact .inl (by decide +kernel)|exact .inr (by decide +kernel)) (by rw [isSubtype_type];kernel_rfl)
theorem Ey:entryFor table "set_iterator.__next__"=some Builtin.«set_iterator.__next__»:=entryFor_of_tree (by kernel_rfl)
theorem Qz:entryFor table "set.__iter__"=some Builtin.«frozenset.__iter__»:=entryFor_alias (id':="frozenset.__iter__") (by kernel_rfl) rfl (by decide +kernel) (by kernel_rfl)
def SI (h:Heap)(I:Addr)(f:Value)(i:Nat)(a:Addr)(n ep:Nat):Prop:=∃o,h.get? I=some o∧o.cls=.type "set_iterator"∧o.data=.fields #[f,.int i 0,.ref a,.int n 0,.int ep 0]
theorem SI.mv {h h':Heap}{I a:Addr}{f:Value}{i n ep:Nat}(x:SI h I f i a n ep)(q:∀o,h.get? I=some o→h'.get? I=some o):SI h' I f i a n ep:=by
 obtain ⟨o,e,r⟩:=x
 exact ⟨o,q o e,r⟩
theorem Vt {α:Type}(nx:Nat→Nat):∀(fuel k:Nat) (left:List α) (out:Array α),left.length=fuel→(pickOrder.go nx fuel k left out).toList.Perm (out.toList++left)
 |0,k,left,out,h=>by
  have:left=[]:=List.length_eq_zero_iff.mp h
  subst this
  rw [List.append_nil]
  exact List.Perm.refl _
 |fuel+1,k,left,out,h=>by
  have hp:0<left.length:=by omega
  have hj:nx k % left.length<left.length:=Nat.mod_lt _ hp
  have e:left[nx k % left.length]? =some left[nx k % left.length]:=List.getElem?_eq_getElem hj
  unfold pickOrder.go
  rw [e]
  dsimp only
  refine (Vt nx fuel (k+1) _ _ (by rw [List.length_eraseIdx_of_lt hj,h];rfl)).trans ?_
  rw [Array.toList_push,List.append_assoc]
  exact (Hj left _ _ e).append_left _
theorem Ff {α:Type}(nx:Nat→Nat)(xs:Array α):(pickOrder nx xs).toList.Perm xs.toList:=by
 have:=Vt nx xs.size 0 xs.toList #[] (by simp)
 simpa [pickOrder] using this
section
variable {prog:Program}{w:World}{A:Around}{E:Value→Shared→Prop}{s:Shared}
theorem Ad5 {M:Model}{src:Source}{n:Nat}{Q:Nat→Shared→Prop}(hn:n≠0)(q:∀i d,i<n→Q i { s with drawn:=d }):wpAny M A (choose src n) Q E s:=
 fun _ _ _=>⟨hn,q _ _ (Nat.mod_lt _ (Nat.pos_of_ne_zero hn))⟩
theorem Ol {M:Model}{α:Type}:∀(n:Nat) (xs:List α) (s:Shared) {Q:List α→Shared→Prop},xs.length=n→(∀ys d,ys.Perm xs→Q ys { s with drawn:=d })→wpAny M A (drawOrder n xs) Q E s
 |0,xs,s,Q,h,q=>by
  have:xs=[]:=List.length_eq_zero_iff.mp h
  subst this
  unfold drawOrder
  exact wpAny_pure (q [] s.drawn (List.Perm.refl _))
 |n+1,[],s,Q,h,q=>by simp at h
 |n+1,x::xs,s,Q,h,q=>by
  unfold drawOrder
  refine wpAny_bind (Ad5 (by simp) fun i d hi=>?_)
  have e:(x::xs)[i]? =some (x::xs)[i]:=List.getElem?_eq_getElem hi
  rw [e]
  dsimp only
  refine wpAny_bind (Ol n _ _ (by rw [List.length_eraseIdx_of_lt hi,h];rfl) fun ys d' hp=>wpAny_pure ?_)
  exact q _ d' ((hp.cons _).trans (Hj _ _ _ e))
theorem Mi {I a:Addr}{slot nx i:Nat}{o:Obj}{ss:List Str}{es:Array (Int×Value)}{ep:Nat}{t:SetTable}{x:Value}{Q:Option Value→Shared→Prop}(hit:SI s.heap I (.int slot 0) i a es.size ep)(ho:s.heap.get? a=some o)(S:Fu prog w o ss es ep t)
  (hn:∀(Q':Option (Value×Nat)→Shared→Prop) (E':Value→Shared→Prop),Q' (some (x,nx)) s→wpAny (model prog w) A.in1 (setNext a slot i ep) Q' E' s)
  (q:∀g,SI g I (.int nx 0) (i+1) a es.size ep→Heap.SameBut I s.heap g→Q (some x) { s with heap:=g }):wpAny (model prog w) A (pyNext (.ref I)) Q E s:=by
 obtain ⟨io,e1,c1,d1⟩:=id hit
 have ty:s.TypeIs (.ref I) "set_iterator":=⟨io,e1,c1⟩
 unfold pyNext
 refine wpAny_bind (wpAny_attempt (wpAny_callSpecial?_slot (name:=Str.ofString "__next__") ty Be (wpAny_call_entry Be ty Ey ?_)))
 unfold Builtin.«set_iterator.__next__»
 refine wpAny_bind (m:=slotArgs "__next__" 0 _) (wpAny_pure ?_)
 refine wpAny_bind (wpAny_fieldsOf e1 d1 ?_)
 dsimp only
 refine wpAny_bind (wpAny_setEntries_of ho S.dat S.fit ?_)
 simp only [bne_self_eq_false,Bool.false_eq_true,if_false,Int.toNat_natCast]
 refine wpAny_bind (hn _ _ ?_)
 dsimp only
 refine wpAny_bind (wpAny_setField e1 d1 (by simp) ?_)
 have g1:=Heap.get?_update_self (Obj.mapFields (·.setIfInBounds 0 (rawInt (nx:Int)))) e1 (Obj.isFreed_of_fields (Obj.data_mapFields d1 _))
 have d2:=Obj.data_mapFields d1 (·.setIfInBounds 0 (rawInt (nx:Int)))
 refine wpAny_bind (wpAny_setField g1 d2 (by simp) ?_)
 refine wpAny_pure ⟨_,rfl,wpAny_pure (q _ ?_ ((Heap.SameBut.update ..).trans (Heap.SameBut.update ..)))⟩
 refine ⟨_,Heap.get?_update_self _ g1 (Obj.isFreed_of_fields (Obj.data_mapFields d2 _)),(Obj.cls_mapFields ..).trans ((Obj.cls_mapFields ..).trans c1),?_⟩
 rw [Obj.data_mapFields d2]
 simp [rawInt]
theorem Of {I a:Addr}{slot i:Nat}{o:Obj}{ss:List Str}{es:Array (Int×Value)}{ep:Nat}{t:SetTable}{Q:Option Value→Shared→Prop}(hh:A.handled=none)(hit:SI s.heap I (.int slot 0) i a es.size ep)(ho:s.heap.get? a=some o)(S:Fu prog w o ss es ep t)
  (hn:∀(Q':Option (Value×Nat)→Shared→Prop) (E':Value→Shared→Prop),Q' none s→wpAny (model prog w) A.in1 (setNext a slot i ep) Q' E' s)
  (q:∀g,Heap.ExtBut I s.heap g→Q none { s with heap:=g }):wpAny (model prog w) A (pyNext (.ref I)) Q E s:=by
 obtain ⟨io,e1,c1,d1⟩:=id hit
 have ty:s.TypeIs (.ref I) "set_iterator":=⟨io,e1,c1⟩
 unfold pyNext
 refine wpAny_bind (wpAny_attempt (wpAny_callSpecial?_slot (name:=Str.ofString "__next__") ty Be (wpAny_call_entry Be ty Ey ?_)))
 unfold Builtin.«set_iterator.__next__»
 refine wpAny_bind (m:=slotArgs "__next__" 0 _) (wpAny_pure ?_)
 refine wpAny_bind (wpAny_fieldsOf e1 d1 ?_)
 dsimp only
 refine wpAny_bind (wpAny_setEntries_of ho S.dat S.fit ?_)
 simp only [bne_self_eq_false,Bool.false_eq_true,if_false,Int.toNat_natCast]
 refine wpAny_bind (hn _ _ ?_)
 dsimp only
 refine wpAny_bind (wpAny_setField e1 d1 (by simp) ?_)
 show wpAny _ _ (newExc (.type "StopIteration") [] >>= _) _ _ _;refine wpAny_bind ?_;simp only [newExc,newTuple]
 refine wpAny_bind (wpAny_newObj_type ?_ (by size_fits));refine wpAny_bind (m:=firstArgMember _ _) (wpAny_of_eq (a:=Value.none) (by first|rfl|(simp only [firstArgMember];rfl)) ?_)
 refine wpAny_newObj_type ?_ (by size_fits);simp only [raiseNew];refine wpAny_bind (wpAny_handled ?_);rw [show A.in1.handled=none from hh]
 refine wpAny_bind (wpAny_pure (wpAny_throw ?_))
 exact wpAny_bind (wpAny_isInstance (T:="StopIteration") (b:=true) ⟨_,Heap.get?_push_size _ rfl,rfl⟩ isSubtype_stop (wpAny_pure (q _ (((Heap.SameBut.update ..).extBut.push _).push _))))
theorem Tq {I a T:Addr}{i p:Nat}{o oT:Obj}{ss:List Str}{es:Array (Int×Value)}{ep nT:Nat}{t:SetTable}{vs:Array Value}{x:Int×Value}{Q:Option Value→Shared→Prop}(hit:SI s.heap I (.ref T) i a es.size ep)(ho:s.heap.get? a=some o)(S:Fu prog w o ss es ep t)
  (hT:s.heap.get? T=some oT) (dT:oT.data=.seq vs nT) (hv:vs[i]? =some (.int p 0)) (hx:es[p]? =some x)
  (q:∀g,SI g I (.ref T) (i+1) a es.size ep→Heap.SameBut I s.heap g→Q (some x.2) { s with heap:=g }):wpAny (model prog w) A (pyNext (.ref I)) Q E s:=by
 obtain ⟨io,e1,c1,d1⟩:=id hit
 have ty:s.TypeIs (.ref I) "set_iterator":=⟨io,e1,c1⟩
 unfold pyNext
 refine wpAny_bind (wpAny_attempt (wpAny_callSpecial?_slot (name:=Str.ofString "__next__") ty Be (wpAny_call_entry Be ty Ey ?_)))
 unfold Builtin.«set_iterator.__next__»
 refine wpAny_bind (m:=slotArgs "__next__" 0 _) (wpAny_pure ?_)
 refine wpAny_bind (wpAny_fieldsOf e1 d1 ?_)
 dsimp only
 refine wpAny_bind (wpAny_setEntries_of ho S.dat S.fit ?_)
 simp only [bne_self_eq_false,Bool.false_eq_true,if_false,Int.toNat_natCast]
 refine wpAny_bind (wpAny_seqItems hT dT ?_)
 dsimp only
 rw [hv]
 dsimp only
 simp only [Int.toNat_natCast]
 unfold setNextDrawn
 refine wpAny_bind (wpAny_bind (wpAny_setState_of ho S.dat S.fit ?_))
 dsimp only
 simp only [bne_self_eq_false,Bool.false_eq_true,if_false]
 rw [hx]
 dsimp only
 refine wpAny_pure ?_
 refine wpAny_bind (wpAny_setField e1 d1 (by simp) (wpAny_pure ⟨_,rfl,wpAny_pure (q _ ?_ (Heap.SameBut.update ..))⟩))
 refine ⟨_,Heap.get?_update_self _ e1 (Obj.isFreed_of_fields (Obj.data_mapFields d1 _)),(Obj.cls_mapFields ..).trans c1,?_⟩
 rw [Obj.data_mapFields d1]
 simp [rawInt]
theorem Wq {I a T:Addr}{i:Nat}{o oT:Obj}{ss:List Str}{es:Array (Int×Value)}{ep nT:Nat}{t:SetTable}{vs:Array Value}{Q:Option Value→Shared→Prop}(hh:A.handled=none)(hit:SI s.heap I (.ref T) i a es.size ep)(ho:s.heap.get? a=some o)(S:Fu prog w o ss es ep t)
  (hT:s.heap.get? T=some oT) (dT:oT.data=.seq vs nT) (hv:vs[i]? =none)
  (q:∀g,Heap.ExtBut I s.heap g→Q none { s with heap:=g }):wpAny (model prog w) A (pyNext (.ref I)) Q E s:=by
 obtain ⟨io,e1,c1,d1⟩:=id hit
 have ty:s.TypeIs (.ref I) "set_iterator":=⟨io,e1,c1⟩
 unfold pyNext
 refine wpAny_bind (wpAny_attempt (wpAny_callSpecial?_slot (name:=Str.ofString "__next__") ty Be (wpAny_call_entry Be ty Ey ?_)))
 unfold Builtin.«set_iterator.__next__»
 refine wpAny_bind (m:=slotArgs "__next__" 0 _) (wpAny_pure ?_)
 refine wpAny_bind (wpAny_fieldsOf e1 d1 ?_)
 dsimp only
 refine wpAny_bind (wpAny_setEntries_of ho S.dat S.fit ?_)
 simp only [bne_self_eq_false,Bool.false_eq_true,if_false,Int.toNat_natCast]
 refine wpAny_bind (wpAny_seqItems hT dT ?_)
 dsimp only
 rw [hv]
 dsimp only
 refine wpAny_bind (wpAny_setField e1 d1 (by simp) ?_)
 have g1:=Heap.get?_update_self (Obj.mapFields (·.setIfInBounds 0 (rawInt 0))) e1 (Obj.isFreed_of_fields (Obj.data_mapFields d1 _))
 have d2:=Obj.data_mapFields d1 (·.setIfInBounds 0 (rawInt 0))
 refine wpAny_bind (wpAny_setField g1 d2 (by simp) ?_)
 show wpAny _ _ (newExc (.type "StopIteration") [] >>= _) _ _ _;refine wpAny_bind ?_;simp only [newExc,newTuple]
 refine wpAny_bind (wpAny_newObj_type ?_ (by size_fits));refine wpAny_bind (m:=firstArgMember _ _) (wpAny_of_eq (a:=Value.none) (by first|rfl|(simp only [firstArgMember];rfl)) ?_)
 refine wpAny_newObj_type ?_ (by size_fits);simp only [raiseNew];refine wpAny_bind (wpAny_handled ?_);rw [show A.in1.handled=none from hh]
 refine wpAny_bind (wpAny_pure (wpAny_throw ?_))
 exact wpAny_bind (wpAny_isInstance (T:="StopIteration") (b:=true) ⟨_,Heap.get?_push_size _ rfl,rfl⟩ isSubtype_stop (wpAny_pure (q _ ((((Heap.SameBut.update ..).trans (Heap.SameBut.update ..)).extBut.push _).push _))))
theorem Vn {a:Addr}{slot i:Nat}{o:Obj}{ss:List Str}{es:Array (Int×Value)}{ep:Nat}{t:SetTable}{Q:Option (Value×Nat)→Shared→Prop}(ho:s.heap.get? a=some o)(S:Fu prog w o ss es ep t)(hb:Ik w=true)
  (q:Q (((pickOrder (w.params.setOrder a ep) es)[i]?).map fun e=>(e.2,slot)) s):wpAny (model prog w) A (setNext a slot i ep) Q E s:=by
 have hb':(model prog w).w.params.followText "set-order"=true:=hb
 unfold setNext
 refine wpAny_bind (wpAny_setState_of ho S.dat S.fit ?_)
 dsimp only
 unfold setsByText
 refine wpAny_bind (wpAny_bind (wpAny_askSetting (wpAny_pure ?_)))
 dsimp only
 rw [hb']
 simp only [↓reduceIte,bne_self_eq_false,Bool.false_eq_true,if_false]
 unfold setWalk
 refine wpAny_bind (wpAny_bind (wpAny_setState_of ho S.dat S.fit ?_))
 dsimp only
 unfold setsByText
 refine wpAny_bind (wpAny_bind (wpAny_askSetting (wpAny_pure ?_)))
 dsimp only
 rw [hb']
 simp only [↓reduceIte]
 refine wpAny_bind (wpAny_askSetting (wpAny_pure (wpAny_pure ?_)))
 exact q
theorem Q6 {a:Addr}{slot i:Nat}{o:Obj}{ss:List Str}{es:Array (Int×Value)}{ep:Nat}{t:SetTable}{Q:Option (Value×Nat)→Shared→Prop}(ho:s.heap.get? a=some o)(S:Fu prog w o ss es ep t)(hb:Ik w=false)(hz:es.size≤1)
  (q:Q (match es[SetTable.below t.place slot]?,t.place[SetTable.below t.place slot]? with|some (_,x),some j=>some (x,j+1)|_,_=>none) s):wpAny (model prog w) A (setNext a slot i ep) Q E s:=by
 have hb':(model prog w).w.params.followText "set-order"=false:=hb
 have hl:t.led=true:=by rw [S.led,hb];rfl
 unfold setNext
 refine wpAny_bind (wpAny_setState_of ho S.dat S.fit ?_)
 dsimp only
 unfold setsByText
 refine wpAny_bind (wpAny_bind (wpAny_askSetting (wpAny_pure ?_)))
 dsimp only
 rw [hb']
 simp only [Bool.false_eq_true,if_false]
 split
 ·rename_i h
  have h':(!t.plain&&decide (es.size>1))=true:=h
  have:decide (es.size>1)=false:=decide_eq_false (by omega)
  rw [this,Bool.and_false] at h'
  cases h'
 ·refine wpAny_bind ?_
  show wpAny _ _ (if (!t.led&&!es.isEmpty)=true then _ else _) _ _ _
  rw [hl,if_neg (by simp)]
  exact wpAny_pure (wpAny_pure q)
theorem Aew (p:Nat):SetTable.below #[p] 0=0:=by
 unfold SetTable.below
 simp [SetTable.below.go]
theorem Ag3 (p:Nat):SetTable.below #[p] (p+1)=1:=by
 unfold SetTable.below
 simp [SetTable.below.go]
theorem Kw:Slot "set_iterator" "__iter__" "set_iterator.__iter__":=.of (owner:="set_iterator") (n:="__iter__") (by rw [typeLookup_type,builtinLookup_eq_fast];kernel_rfl) (by decide +kernel) (by decide +kernel) (by decide +kernel) (by first|exact .inl (by decide +kernel)|exact .inr (by decide +kernel)) (by rw [isSubtype_type];kernel_rfl)
theorem Qy:entryFor table "set_iterator.__iter__"=some Builtin.«dict_keyiterator.__iter__»:=entryFor_alias (id':="dict_keyiterator.__iter__") (by kernel_rfl) rfl (by decide +kernel) (by kernel_rfl)
theorem Mu {I a:Addr}{f:Value}{i n ep:Nat}{Q:Value→Shared→Prop}(hit:SI s.heap I f i a n ep)(q:Q (.ref I) s):wpAny (model prog w) A (pyIter (.ref I)) Q E s:=by
 obtain ⟨io,e1,c1,d1⟩:=hit
 have ty:s.TypeIs (.ref I) "set_iterator":=⟨io,e1,c1⟩
 refine wpAny_pyIter_slot ty Kw (wpAny_call_entry Kw ty Qy ?_)
 show wpAny _ _ (ret (.ref I)) _ _ s
 exact wpAny_pure ⟨_,rfl,"set_iterator",_,ty,Be.lookup,q⟩
theorem Fj {I:Addr}{g:Heap}(sb:Heap.ExtBut I s.heap g):Moved [I] (fun a b=>b=a) s { s with heap:=g } :=
 ⟨fun b o hb e=>sb b o (fun z=>hb (by rw [z];exact List.mem_cons_self)) e,rfl,rfl,rfl,Nat.le_refl _⟩
theorem Ab4 {I a:Addr}{o:Obj}{ss:List Str}{es:Array (Int×Value)}{ep:Nat}{t:SetTable}(S:Fu prog w o ss es ep t)(hb:Ik w=true)(ne:a≠I){B:Around}(hh:B.handled=none) :
  WalksS prog w B I [I,a] [I] (fun a b=>b=a) es.size (fun i v=>((pickOrder (w.params.setOrder a ep) es).toList.map (·.2))[i]? =some v) (fun i s=>SI s.heap I (.int (0:Nat) 0) i a es.size ep∧s.heap.get? a=some o) where
 sub:=fun b hb=>by simp at hb;simp [hb]
 grefl:=fun _=>rfl
 gtrans:=fun _ _ _ h1 h2=>h2.trans h1
 frame:=fun i s h' _ st _ k=>⟨st.1.mv fun o e=>k I (by simp) o e,k a (by simp) _ st.2⟩
 item:=fun i s Q E hi st hQ=>by
  have hz:(pickOrder (w.params.setOrder a ep) es).size=es.size:=by rw [←Array.length_toList,(Ff _ es).length_eq,Array.length_toList]
  have e:(pickOrder (w.params.setOrder a ep) es)[i]? =some (pickOrder (w.params.setOrder a ep) es)[i]:=Array.getElem?_eq_getElem (by omega)
  refine Mi (slot:=0) (nx:=0) st.1 st.2 S (fun Q' E' h=>Vn st.2 S hb (by rw [e];exact h)) fun g hg sb=>hQ _ _ ?_ ⟨hg,sb.extBut a _ ne st.2⟩ (Fj sb.extBut)
  rw [List.getElem?_map,Array.getElem?_toList,e]
  rfl
 done:=fun s Q E st hQ=>by
  have hz:(pickOrder (w.params.setOrder a ep) es).size=es.size:=by rw [←Array.length_toList,(Ff _ es).length_eq,Array.length_toList]
  have e:(pickOrder (w.params.setOrder a ep) es)[es.size]? =none:=Array.getElem?_eq_none (by omega)
  exact Of hh st.1 st.2 S (fun Q' E' h=>Vn st.2 S hb (by rw [e];exact h)) fun g sb=>hQ _ (Fj sb)
 self:=fun i s Q E st hQ=>Mu st.1 hQ
theorem Ab9 {I a T:Addr}{o oT:Obj}{ss:List Str}{es:Array (Int×Value)}{ep nT:Nat}{t:SetTable}(S:Fu prog w o ss es ep t)(ps:List Nat)(hp:∀p∈ps,p<es.size)(hl:ps.length=es.size)(dT:oT.data=.seq (ps.map fun (p:Nat)=>rawInt p).toArray nT)(ne:a≠I)(neT:T≠I){B:Around}(hh:B.handled=none) :
  WalksS prog w B I [I,a,T] [I] (fun a b=>b=a) es.size (fun i v=>(ps.map fun p=>((es[p]?).map (·.2)).getD .none)[i]? =some v) (fun i s=>SI s.heap I (.ref T) i a es.size ep∧s.heap.get? a=some o∧s.heap.get? T=some oT) where
 sub:=fun b hb=>by simp at hb;simp [hb]
 grefl:=fun _=>rfl
 gtrans:=fun _ _ _ h1 h2=>h2.trans h1
 frame:=fun i s h' _ st _ k=>⟨st.1.mv fun o e=>k I (by simp) o e,k a (by simp) _ st.2.1,k T (by simp) _ st.2.2⟩
 item:=fun i s Q E hi st hQ=>by
  have hi':i<ps.length:=by omega
  have h1:((ps.map fun (p:Nat)=>rawInt p).toArray)[i]? =some (.int (ps[i]:Nat) 0):=by
   rw [List.getElem?_toArray,List.getElem?_map,List.getElem?_eq_getElem hi']
   rfl
  have h2:=hp ps[i] (List.getElem_mem hi')
  have h3:es[ps[i]]? =some es[ps[i]]:=Array.getElem?_eq_getElem h2
  refine Tq st.1 st.2.1 S st.2.2 dT h1 h3 fun g hg sb=>hQ _ _ ?_ ⟨hg,sb.extBut a _ ne st.2.1,sb.extBut T _ neT st.2.2⟩ (Fj sb.extBut)
  rw [List.getElem?_map,List.getElem?_eq_getElem hi']
  simp [h3]
 done:=fun s Q E st hQ=>by
  have h1:((ps.map fun (p:Nat)=>rawInt p).toArray)[es.size]? =none:=by
   rw [List.getElem?_toArray,List.getElem?_map,List.getElem?_eq_none (by omega)]
   rfl
  exact Wq hh st.1 st.2.1 S st.2.2 dT h1 fun g sb=>hQ _ (Fj sb)
 self:=fun i s Q E st hQ=>Mu st.1 hQ
theorem Xp {I a:Addr}{o:Obj}{ss:List Str}{es:Array (Int×Value)}{ep:Nat}{t:SetTable}(S:Fu prog w o ss es ep t)(hb:Ik w=false)(hz:es.size≤1)(ne:a≠I){B:Around}(hh:B.handled=none) :
  WalksS prog w B I [I,a] [I] (fun a b=>b=a) es.size (fun i v=>(es.toList.map (·.2))[i]? =some v) (fun i s=>(∃slot:Nat,SI s.heap I (.int slot 0) i a es.size ep∧(i=0→slot=0)∧(i=1→∀p,t.place=#[p]→slot=p+1))∧s.heap.get? a=some o) where
 sub:=fun b hb=>by simp at hb;simp [hb]
 grefl:=fun _=>rfl
 gtrans:=fun _ _ _ h1 h2=>h2.trans h1
 frame:=fun i s h' _ st _ k=>by
  obtain ⟨⟨slot,st,r⟩,st2⟩:=st
  exact ⟨⟨slot,st.mv fun o e=>k I (by simp) o e,r⟩,k a (by simp) _ st2⟩
 item:=fun i s Q E hi st hQ=>by
  obtain ⟨⟨slot,st,r,_⟩,st2⟩:=st
  have i0:i=0:=by omega
  have z1:es.size=1:=by omega
  subst i0
  have hs:=r rfl
  subst hs
  obtain ⟨e,he⟩:∃e,es=#[e]:=Array.size_eq_one_iff.mp z1
  have pz:t.place.size=1:=by
   have:=S.fit
   simp only [SetTable.fits,Bool.and_eq_true,beq_iff_eq] at this
   rw [this.1,z1]
  obtain ⟨p,hp⟩:∃p,t.place=#[p]:=Array.size_eq_one_iff.mp pz
  refine Mi (slot:=0) (nx:=p+1) (x:=e.2) st st2 S (fun Q' E' h=>Q6 st2 S hb hz ?_) fun g hg sb=>hQ _ _ ?_ ⟨⟨p+1,hg,fun z=>absurd z (by decide),fun _ p' hp'=>?_⟩,sb.extBut a _ ne st2⟩ (Fj sb.extBut)
  ·rw [hp,Aew,he]
   exact h
  ·rw [he]
   rfl
  ·rw [hp] at hp'
   cases hp'
   rfl
 done:=fun s Q E st hQ=>by
  obtain ⟨⟨slot,st,r0,r1⟩,st2⟩:=st
  refine Of hh st st2 S (fun Q' E' h=>Q6 st2 S hb hz ?_) fun g sb=>hQ _ (Fj sb)
  have:es.size=0∨es.size=1:=by omega
  rcases this with z|z
  ·have e0:es[SetTable.below t.place slot]? =none:=Array.getElem?_eq_none (by omega)
   rw [e0]
   exact h
  ·have pz:t.place.size=1:=by
    have:=S.fit
    simp only [SetTable.fits,Bool.and_eq_true,beq_iff_eq] at this
    rw [this.1,z]
   obtain ⟨p,hp⟩:∃p,t.place=#[p]:=Array.size_eq_one_iff.mp pz
   have hs:=r1 z p hp
   subst hs
   have e0:es[SetTable.below t.place (p+1)]? =none:=by
    rw [hp,Ag3]
    exact Array.getElem?_eq_none (by omega)
   rw [e0]
   exact h
 self:=fun i s Q E st hQ=>by
  obtain ⟨⟨slot,st,_⟩,_⟩:=st
  exact Mu st hQ
theorem Qg {o:Obj}{ss:List Str}{es:Array (Int×Value)}{ep:Nat}{t:SetTable}(S:Fu prog w o ss es ep t){e:Int×Value}(h:e∈es.toList):∃x tk,e.2=.str x tk:=by
 obtain ⟨⟨k,hk,_⟩,_⟩:=S.el e h
 obtain ⟨tk,z⟩:=Value.isStrOf_shape hk
 exact ⟨k,tk,z⟩
theorem Aig {a:Addr}{o:Obj}{ss:List Str}{es:Array (Int×Value)}{ep:Nat}{t:SetTable}{Q:Value→Shared→Prop}(ho:s.heap.get? a=some o)(S:Fu prog w o ss es ep t)
  (q:∀(I:Addr) (g:Heap) (d:Drawn) (xs:List Value) (fp:List Addr) (St:Nat→Shared→Prop),(∀b o,s.heap.get? b=some o→g.get? b=some o)→s.heap.objs.size≤I→I∈fp→(∀b∈fp,b=a∨s.heap.objs.size≤b∧b<g.objs.size)→(xs.map strOf).Perm ss →
   (∀v∈xs,∃x tk,v=.str x tk)→xs.length=es.size→(∀B:Around,B.handled=none→WalksS prog w B I fp [I] (fun a b=>b=a) es.size (fun i v=>xs[i]? =some v) St)→St 0 { s with heap:=g,drawn:=d }→Q (.ref I) { s with heap:=g,drawn:=d }) :
  wpAny (model prog w) A (pyIter (.ref a)) Q E s:=by
 have ty:s.TypeIs (.ref a) "set":=⟨o,ho,S.ex.1⟩
 have la:a<s.heap.objs.size:=Heap.lt_size ho
 refine wpAny_pyIter_slot ty PySem.F.slot_set_iter (wpAny_call_entry PySem.F.slot_set_iter ty Qz ?_ (PySem.F.args_set_iter_1 _))
 unfold Builtin.«frozenset.__iter__» Builtin.Frozenset.slot0
 refine wpAny_bind (wpAny_bind (m:=slotArgs "__iter__" 0 _) (wpAny_pure (wpAny_pure ?_)))
 unfold Builtin.Frozenset.sizeOf
 refine wpAny_bind (wpAny_bind (wpAny_setEntries_of ho S.dat S.fit (wpAny_pure ?_)))
 unfold setDrawn
 refine wpAny_bind (wpAny_bind (wpAny_setState_of ho S.dat S.fit ?_))
 dsimp only
 unfold setsByText
 refine wpAny_bind (wpAny_bind (wpAny_askSetting (wpAny_pure ?_)))
 dsimp only
 refine wpAny_pure ?_
 split
 ·rename_i hc
  have hc':(!Ik w&&(!t.plain&&decide (es.size>1)))=true:=hc
  have hb:Ik w=false:=by
   cases h:Ik w with
   |false=>rfl
   |true=>rw [h] at hc';simp at hc'
  have h1:1<es.size:=by
   have:decide (es.size>1)=true:=by
    cases h:decide (es.size>1) with
    |true=>rfl
    |false=>rw [h] at hc';simp at hc'
   exact of_decide_eq_true this
  refine wpAny_bind (Ol es.size _ s (by simp) fun ps d hp=>?_)
  have hl:ps.length=es.size:=by rw [hp.length_eq,List.length_range]
  have hlt:∀p∈ps,p<es.size:=fun p h=>List.mem_range.mp (hp.mem_iff.mp h)
  have hs:es.size≤sizeLine:=fits_of_scanBound S.bd
  refine wpAny_bind (wpAny_newTuple ?_ (by rw [List.length_map,hl];exact hs))
  have ho1:(s.heap.push { cls:=.type "tuple",data:=.seq (ps.map fun (p:Nat)=>rawInt p).toArray }).get? a=some o:=Heap.get?_push_of_some _ ho
  refine wpAny_bind (wpAny_setEpoch_of (s:={ s with heap:=_,drawn:=d }) ho1 S.dat S.fit ?_)
  refine wpAny_bind (wpAny_newObj_type ?_ (by size_fits))
  have hT:(s.heap.push { cls:=.type "tuple",data:=.seq (ps.map fun (p:Nat)=>rawInt p).toArray }).get? s.heap.objs.size=some _:=Heap.get?_push_size _ rfl
  have e1:(s.heap.push { cls:=.type "tuple",data:=.seq (ps.map fun (p:Nat)=>rawInt p).toArray }).objs.size=s.heap.objs.size+1:=Heap.size_push ..
  refine wpAny_pure ⟨_,rfl,"set_iterator",_,⟨_,Heap.get?_push_size _ rfl,rfl⟩,Be.lookup,?_⟩
  have neA:a≠(s.heap.push { cls:=.type "tuple",data:=.seq (ps.map fun (p:Nat)=>rawInt p).toArray }).objs.size:=by rw [e1];exact Nat.ne_of_lt (Nat.lt_succ_of_lt la)
  have neT:s.heap.objs.size≠(s.heap.push { cls:=.type "tuple",data:=.seq (ps.map fun (p:Nat)=>rawInt p).toArray }).objs.size:=by rw [e1];exact Nat.ne_of_lt (Nat.lt_succ_self _)
  refine q _ _ d (ps.map fun p=>((es[p]?).map (·.2)).getD .none) [_,a,s.heap.objs.size] _ (fun b o e=>Heap.get?_push_of_some _ (Heap.get?_push_of_some _ e)) (by simp only [e1];omega) List.mem_cons_self ?_ ?_ ?_ (by rw [List.length_map,hl]) (fun B hh=>Ab9 S ps hlt hl rfl neA neT hh) ⟨⟨_,Heap.get?_push_size _ rfl,rfl,rfl⟩,Heap.get?_push_of_some _ ho1,Heap.get?_push_of_some _ hT⟩
  ·intro b hb
   simp only [List.mem_cons,List.not_mem_nil,or_false] at hb
   rcases hb with rfl|rfl|rfl
   ·exact .inr ⟨by rw [e1];exact Nat.le_succ _,by simp only [Heap.size_push];exact Nat.lt_succ_self _⟩
   ·exact .inl rfl
   ·exact .inr ⟨Nat.le_refl _,by rw [Heap.size_push,e1];exact Nat.lt_succ_of_lt (Nat.lt_succ_self _)⟩
  ·have r:((List.range es.size).map fun p=>((es[p]?).map (·.2)).getD .none)=es.toList.map (·.2):=by
    apply List.ext_getElem?
    intro i
    simp only [List.getElem?_map]
    by_cases hi:i<es.size
    ·simp [hi]
    ·simp [hi]
   have:=((hp.map fun p=>((es[p]?).map (·.2)).getD .none).map strOf)
   rw [r] at this
   exact this.trans (by rw [List.map_map];exact S.pm)
  ·intro v hv
   obtain ⟨p,h,rfl⟩:=List.mem_map.mp hv
   have hp':=hlt p h
   obtain ⟨x,tk,z⟩:=Qg S (e:=es[p]) (by simp)
   exact ⟨x,tk,by simp [hp',z]⟩
 ·rename_i hc
  have hc':¬(!Ik w&&(!t.plain&&decide (es.size>1)))=true:=hc
  refine wpAny_bind (wpAny_pure (wpAny_bind (wpAny_setEpoch_of ho S.dat S.fit ?_)))
  refine wpAny_bind (wpAny_newObj_type ?_ (by size_fits))
  refine wpAny_pure ⟨_,rfl,"set_iterator",_,⟨_,Heap.get?_push_size _ rfl,rfl⟩,Be.lookup,?_⟩
  have keep:∀{ob:Obj} (b:Addr) (o:Obj),s.heap.get? b=some o→(s.heap.push ob).get? b=some o:=fun b o e=>Heap.get?_push_of_some _ e
  have fpk:∀{ob:Obj} (b:Addr),b∈[s.heap.objs.size,a]→b=a∨s.heap.objs.size≤b∧b<(s.heap.push ob).objs.size:=fun b hb=>by
   simp only [List.mem_cons,List.not_mem_nil,or_false] at hb
   rcases hb with rfl|rfl
   ·exact .inr ⟨Nat.le_refl _,by rw [Heap.size_push];exact Nat.lt_succ_self _⟩
   ·exact .inl rfl
  cases hb:Ik w with
  | true=>
   refine q _ _ s.drawn ((pickOrder (w.params.setOrder a ep) es).toList.map (·.2)) [_,a] _ keep (Nat.le_refl _) List.mem_cons_self fpk ?_ ?_ ?_ (fun B hh=>Ab4 S hb (Nat.ne_of_lt la) hh) ⟨⟨_,Heap.get?_push_size _ rfl,rfl,rfl⟩,Heap.get?_push_of_some _ ho⟩
   ·rw [List.map_map]
    exact ((Ff _ es).map tx).trans S.pm
   ·intro v hv
    obtain ⟨e,h,rfl⟩:=List.mem_map.mp hv
    exact Qg S ((Ff _ es).mem_iff.mp h)
   ·rw [List.length_map,(Ff _ es).length_eq,Array.length_toList]
  | false=>
   have hz:es.size≤1:=by
    refine Nat.le_of_not_lt fun h=>hc' ?_
    rw [hb,S.pl (by omega)]
    simpa using h
   refine q _ _ s.drawn (es.toList.map (·.2)) [_,a] _ keep (Nat.le_refl _) List.mem_cons_self fpk ?_ ?_ (by simp) (fun B hh=>Xp S hb hz (Nat.ne_of_lt la) hh) ⟨⟨0,⟨_,Heap.get?_push_size _ rfl,rfl,rfl⟩,fun _=>rfl,fun h=>absurd h (by decide)⟩,Heap.get?_push_of_some _ ho⟩
   ·rw [List.map_map]
    exact S.pm
   ·intro v hv
    obtain ⟨e,h,rfl⟩:=List.mem_map.mp hv
    exact Qg S h
theorem X2 {a:Addr}{o:Obj}{ss:List Str}{es:Array (Int×Value)}{ep:Nat}{t:SetTable}{Q:List Value→Shared→Prop}(hh:A.handled=none)(ho:s.heap.get? a=some o)(S:Fu prog w o ss es ep t)
  (q:∀xs g d tk,(∀b o,s.heap.get? b=some o→g.get? b=some o)→s.heap.objs.size<g.objs.size→(xs.map strOf).Perm ss→(∀v∈xs,∃x tk,v=.str x tk)→Q xs { s with heap:=g,drawn:=d,toks:=tk }):wpAny (model prog w) A (collect (.ref a)) Q E s:=by
 have la:a<s.heap.objs.size:=Heap.lt_size ho
 have hs:es.size≤sizeLine:=fits_of_scanBound S.bd
 unfold collect
 refine wpAny_bind (wpAny_runValue (codeAny_builtin PySem.F.entry_proto_collect ?_))
 rw [Around.under_plainId PySem.F.plain_proto_collect _]
 show wpAny _ A.in1 (newList [] >>= fun l=>again (.builtin "list.__iadd__" ⟨[l,.ref a],[]⟩)) _ _ s
 refine wpAny_bind (wpAny_newObj_type (wpAny_pure ⟨plainId_quiet PySem.F.plain_list_iadd _,codeAny_builtin PySem.F.entry_list_iadd ?_⟩))
 rw [Around.under_plainId PySem.F.plain_list_iadd _]
 show wpAny _ A.in1 (Builtin.List.listExtendWith (.ref s.heap.objs.size) (.ref a) (.ref s.heap.objs.size)) _ _ _
 generalize hob:({ cls:=.type "list",data:=.seq ([]:List Value).toArray }:Obj)=ob
 have hL:(s.heap.push ob).get? s.heap.objs.size=some ob:=Heap.get?_push_size _ (by rw [←hob];rfl)
 have ho1:(s.heap.push ob).get? a=some o:=Heap.get?_push_of_some _ ho
 have sz1:(s.heap.push ob).objs.size=s.heap.objs.size+1:=Heap.size_push ..
 unfold Builtin.List.listExtendWith
 refine wpAny_bind (wpAny_typeOf (T:="set") ⟨o,ho1,S.ex.1⟩ ?_)
 have h1:Builtin.List.listSameRef (.ref s.heap.objs.size) (.ref a)=false:=by simp [Builtin.List.listSameRef,Nat.ne_of_gt la]
 have h2:(Value.type "set"==Value.type "list")=false:=by decide
 have h3:(Value.type "set"==Value.type "tuple")=false:=by decide
 simp only [h1,h2,h3,Bool.or_false,Bool.false_eq_true,if_false]
 refine wpAny_bind (Aig (s:={ s with heap:=s.heap.push ob }) ho1 S fun I g d xs fp St keep lI mI hfp pm hst len W st=>?_)
 refine wpAny_bind (wpAny_holding ?_)
 unfold Builtin.List.listLengthHint
 have ty:Shared.TypeIs { s with heap:=g,drawn:=d } (.ref a) "set":=⟨o,keep _ _ ho1,S.ex.1⟩
 refine wpAny_bind (wpAny_specialOf ty PySem.F.slot_set_len.lookup ?_)
 dsimp only
 rw [show splitId "set.__len__"=some ("set","__len__") by kernel_rfl]
 dsimp only
 refine wpAny_bind (wpAny_isInstance ty sub_set_self ?_)
 simp only [Bool.not_true,Bool.false_eq_true,if_false]
 refine wpAny_ite ?_
 rw [if_pos (by decide +kernel)]
 refine wpAny_bind (wpAny_typeOf ty ?_)
 refine wpAny_pure ?_
 refine wpAny_ite ?_
 rw [if_pos (by decide +kernel)]
 refine wpAny_bind (wpAny_rule (wpAny_bind ?_))
 have hLg:g.get? s.heap.objs.size=some ob:=keep _ _ hL
 rw [←hob] at hLg
 show wpAny _ A.in1 (updateSeq s.heap.objs.size (·.push .none) >>= fun _=>updateSeq s.heap.objs.size (·.pop)) _ _ _
 refine wpAny_bind (wpAny_updateSeq hLg rfl ?_)
 have u1:=Heap.get?_update_self (Obj.mapSeq (·.push Value.none)) hLg rfl
 refine wpAny_updateSeq u1 rfl ?_
 have u2:=Heap.get?_update_self (Obj.mapSeq (·.pop)) u1 rfl
 have oth:∀b o,b≠s.heap.objs.size→g.get? b=some o→((g.update s.heap.objs.size (Obj.mapSeq (·.push Value.none))).update s.heap.objs.size (Obj.mapSeq (·.pop))).get? b=some o:=
  fun b o nb e=>(Heap.get?_update_other _ _ (Ne.symm nb)).trans ((Heap.get?_update_other _ _ (Ne.symm nb)).trans e)
 have nf:s.heap.objs.size∉fp:=fun h=>by
  rcases hfp _ h with z|⟨z,_⟩
  ·exact absurd z (Nat.ne_of_gt la)
  ·have z':(s.heap.push ob).objs.size≤s.heap.objs.size:=z
   rw [sz1] at z'
   exact absurd z' (Nat.not_succ_le_self _)
 have W':=W A.in1 (by simp [hh])
 refine wpAny_pure ⟨plainId_quiet PySem.F.plain_extend_loop _,codeAny_extend_loopS W' hs _ nf _ es.size 0 _ _ _ rfl (Nat.zero_le _) (W'.frame 0 ({ s with heap:=g,drawn:=d }:Shared) _ s.toks st (Nat.le_refl _) fun b hb o e=>oth b o (fun h=>nf (h▸hb)) e) u2 (ItemsOf.nil _) fun s' acc c m hS' it=>?_⟩
 show wpAny _ A (load s.heap.objs.size >>= _) _ _ s'
 refine wpAny_bind (wpAny_load hS' (wpAny_pure ?_))
 have ex:acc.toList=xs:=by
  obtain ⟨z,h⟩:=it
  apply List.ext_getElem?
  intro j
  rw [Array.getElem?_toList]
  cases e:acc[j]? with
  |some v=>exact (h j v e).symm
  | none=>
   have:es.size≤j:=by
    have:=Array.getElem?_eq_none_iff.mp e
    omega
   exact (List.getElem?_eq_none (by omega)).symm
 rw [ex]
 obtain ⟨g',gn,dr,tk,os⟩:=s'
 obtain ⟨m1,m2,m3,m4,m5⟩:=m
 dsimp only at m1 m2 m3 m4 m5
 subst m2 m3 m4
 refine q xs g' _ tk (fun b o e=>m1 b o (fun h=>?_) (oth b o ?_ (keep _ _ (Heap.get?_push_of_some _ e)))) (Heap.lt_size hS') pm hst
 ·rcases List.mem_cons.mp h with z|z
  ·subst z
   exact absurd (Heap.lt_size e) (Nat.lt_irrefl _)
  ·rw [List.mem_singleton] at z
   subst z
   have z':(s.heap.push ob).objs.size≤b:=lI
   rw [sz1] at z'
   exact absurd (Heap.lt_size e) (Nat.not_lt_of_le (Nat.le_of_succ_le z'))
 ·exact Nat.ne_of_lt (Heap.lt_size e)
theorem N2:∀{l:List Str} {p:Str},risingS p l=true→(∀y∈l,¬lS y p)∧l.Pairwise fun a b=>¬lS b a
 |[],_,_=>⟨fun _ h=>absurd h (by simp),List.Pairwise.nil⟩
 | x::r,p,h=>by
  have h':(!ltCps x.cps.toList p.cps.toList&&risingS x r)=true:=h
  rw [Bool.and_eq_true,Bool.not_eq_true',ltCps_eq] at h'
  obtain ⟨h1,h2⟩:=h'
  have n1:¬lS x p:=of_decide_eq_false h1
  obtain ⟨i1,i2⟩:=N2 h2
  refine ⟨fun y hy=>?_,List.pairwise_cons.mpr ⟨i1,i2⟩⟩
  rcases List.mem_cons.mp hy with rfl|hy
  ·exact n1
  ·intro c
   exact i1 y hy (Decidable.byContradiction fun d=>n1 (Decidable.byContradiction fun n1'=>by
    by_cases e:lS p x
    ·exact d (Adv c e)
    ·have e2:=Sy n1' e
     subst e2
     exact d c))
theorem Oe {l:List Str}(h:sortedS l=true):l.Pairwise fun a b=>¬lS b a:=by
 cases l with
 |nil=>exact List.Pairwise.nil
 |cons x r=>
  obtain ⟨h1,h2⟩:=N2 (p:=x) (l:=r) h
  exact List.pairwise_cons.mpr ⟨h1,h2⟩
theorem T6 {a:Addr}{o:Obj}{ss:List Str}{es:Array (Int×Value)}{ep:Nat}{t:SetTable}{Q:Value→Shared→Prop}(hh:A.handled=none)(ho:s.heap.get? a=some o)(S:Fu prog w o ss es ep t)(h64:es.size<64)
  (q:∀(r:Addr) (us:List Value) (ys:List Str) (n:Nat) g d tk,s.heap.objs.size≤r→g.get? r=some (seqObj "list" us.toArray n)→(∀b o,s.heap.get? b=some o→g.get? b=some o)→StrsAre us ys→ys.Perm ss→(ys.Pairwise fun a b=>¬lS b a) →
   Q (.ref r) { s with heap:=g,drawn:=d,toks:=tk }):wpAny (model prog w) A (call (.builtin "sorted") [.ref a]) Q E s:=by
 refine Calls.call_function_entry kind_sorted plain_sorted entry_sorted (args_sorted1 _) ?_
 unfold Builtin.«sorted»
 refine wpAny_bind (m:=checkCount "sorted" 1 1 _) (wpAny_pure (wpAny_bind (X2 (by simp [hh]) ho S fun xs g d tk keep lg pm hst=>?_)))
 have hl:xs.length=es.size:=by
  have:=pm.length_eq
  rw [List.length_map] at this
  rw [this,S.size]
 refine wpAny_bind (wpAny_newList ?_ (by rw [hl];exact fits_of_scanBound S.bd))
 have sa:StrsAre xs (xs.map strOf):=strsAre_map xs hst
 have hoL:(g.push (seqObj "list" xs.toArray 0)).get? g.objs.size=some (seqObj "list" xs.toArray 0):=Heap.get?_push_size _ rfl
 refine wpAny_bind (wpAny_holding (wpAny_call_entry slot_list_sort ⟨_,hoL,rfl⟩ entry_list_sort (list_sort_treeK strKind_oneLt hoL sa.keysOf (fun v1 v2 r e=>keyKind_strs (by rw [←e];exact sa)) (by omega) fun st' a1 a2=>⟨_,rfl,wpAny_pure ⟨_,rfl,?_⟩⟩) (args_list_sort _)))
 obtain ⟨ys,b1,b2,b3⟩:=sorted_out_str sa a1 a2
 obtain ⟨n,hn⟩:=sortedHeap_at (out:=(arrOf st').map (·.2)) hoL
 refine q g.objs.size ((arrOf st').map (·.2)).toList ys n _ d tk (Nat.le_of_lt lg) (by rw [hn]) (fun b ob e=>?_) b1 (b2.trans pm) (Oe b3)
 have hb:=Heap.lt_size (keep b ob e)
 show (sortedHeap _ _ _ _).get? b=some ob
 rw [sortedHeap_old (Nat.ne_of_lt hb) (by rw [Heap.size_push];exact Nat.lt_succ_of_lt hb)]
 exact Heap.get?_push_of_some _ (keep b ob e)
end
section
variable {X:Cx}
theorem Mh:∀{us:List Value} {ys:List Str},StrsAre us ys→Az (ys.map V.str) us
 |_,_,.nil=>.nil
 |_,_,.cons x t r=>.cons ⟨t,rfl⟩ (Mh r)
theorem K0:bootBuiltins "sorted"=some (.builtin "sorted"):=by decide +kernel
theorem Zq:bootBuiltins "set"=some (.type "set"):=by decide +kernel
def Ai2 (K:PySem.W.Frag)(te:TE):TE:=fun σ H Q=>te σ H fun x H1=>match x with
 |.ref l=>∃names:List Str,A0 K H1 l (names.map V.str)∧names.length≤1000∧(Qq names).length<64∧∀D,H1 D=none→Q (.ref D) (upd H1 D (.lst ((Qq names).map V.str)))
 |_=>False
theorem Aat {e:Expr}{te:TE}{p p' pos pos':Pos}(hg1:Gl X "sorted")(hm1:X.mg "sorted"=none)(hg2:Gl X "set")(hm2:X.mg "set"=none)(he:PE X e te)(hc:X.calm=true:=by rfl)
  (hs:starEach [.Call (.Name "set" p') [e] [] pos'] X.env=[(false,eval (.Call (.Name "set" p') [e] [] pos') X.env)]:=by rfl) (hs2:starEach [e] X.env=[(false,eval e X.env)]:=by rfl) :
  PE X (.Call (.Name "sorted" p) [.Call (.Name "set" p') [e] [] pos'] [] pos) (Ai2 X.K te):=by
 intro pins s σ H Q I h
 refine wpAny_Call_Name_kw (Fr I hg1 hm1 K0 ?_)
 refine PyProof.Rows.callWith_builtin1 ?_ hs rfl
 rw [hs]
 show wpAny _ _ (spliced ((false,eval (.Call (.Name "set" p') [e] [] pos') X.env)::backTo pos (starEach [] X.env))) _ _ s
 refine Calls.spliced_cons ?_
 refine wpAny_Call_Name_kw (Fr I hg2 hm2 Zq ?_)
 refine PyProof.Rows.callWith_type1 ?_ hs2 rfl
 rw [hs2]
 show wpAny _ _ (spliced ((false,eval e X.env)::backTo pos' (starEach [] X.env))) _ _ s
 refine Calls.spliced_cons (Ba (he pins s σ H _ I h) fun u s1 ⟨x,H1,I1,r1,q1⟩=>Calls.spliced_nil ?_)
 match x,q1 with
 |.ref l,⟨names,hq,hn,h64,q⟩=>
  cases (show u=Value.ref l from r1)
  obtain ⟨its,rv,⟨oL,nL,eL,cL,dL,xL⟩,hz⟩:=I1.list hq
  have sa:StrsAre its names:=Qh rv
  have hl:its.length=names.length:=by rw [←rv.length,List.length_map]
  have hh:X.A.handled=none:=I1.ok.hd hc
  refine Wt hh ⟨oL,eL,cL,nL,xL⟩ sa (by rw [hl];exact Nat.lt_of_le_of_lt (Nat.succ_le_succ hn) (by decide)) fun g tk hS keep=>Calls.spliced_nil ?_
  obtain ⟨o,es,ep,t,ho,S⟩:=hS
  rw [hl] at S
  refine T6 hh ho S (by rw [S.size];exact Nat.lt_of_le_of_lt (Acf names) h64) fun r us ys n g2 d tk2 lr hr keep2 sa2 pm pw=>?_
  have ey:ys=Qq names:=Ix (Jg pw (pm.nodup_iff.mpr (Jz _ _))) (Ch _) fun x=>by rw [pm.mem_iff,U3,Dx]
  subst ey
  have fr:s1.heap.objs.size≤r:=Nat.le_trans (Nat.le_of_lt (Heap.lt_size ho)) lr
  have I2:=I1.laid (t':=tk2) (h':=g2) (a:=r) (o:=.lst ((Qq names).map V.str)) (fun b u e=>keep2 _ _ (keep _ _ e)) fr ⟨by rw [List.length_map];exact Nat.le_trans (Nat.le_of_lt h64) (by decide),us,n,Mh sa2,hr⟩
  exact ⟨.ref r,_,⟨I2.ok,I2.os,I2.bare,I2.base,I2.loc,I2.cell,I2.free,I2.freeC,I2.pin,I2.hok,I2.len⟩,rfl,q r (I1.hok.fresh fr)⟩
end
end Lw
end
section
namespace Lw
open PySem PySem.Spec PyProof.Rows L2
inductive Aw {α β:Type}(R:α→β→Prop):List α→List β→Prop where
 |nil:Aw R [] []
 |cons {a:α} {b:β} {l:List α} {m:List β}:R a b→Aw R l m→Aw R (a::l) (b::m)
theorem Aw.len {α β:Type}{R:α→β→Prop}:∀{l:List α} {m:List β},Aw R l m→l.length=m.length
 |_,_,.nil=>rfl
 |_,_,.cons _ r=>by rw [List.length_cons,List.length_cons,r.len]
theorem Aw.imp {α β:Type}{R S:α→β→Prop}(h:∀a b,R a b→S a b):∀{l:List α} {m:List β},Aw R l m→Aw S l m
 |_,_,.nil=>.nil
 |_,_,.cons x r=>.cons (h _ _ x) (r.imp h)
theorem Aw.snoc {α β:Type}{R:α→β→Prop}{a:α}{b:β}(x:R a b):∀{l:List α} {m:List β},Aw R l m→Aw R (l++[a]) (m++[b])
 |_,_,.nil=>.cons x .nil
 |_,_,.cons y r=>.cons y (r.snoc x)
theorem Aw.get {α β:Type}{R:α→β→Prop}:∀{l:List α} {m:List β},Aw R l m→∀{i:Nat} {a:α},l[i]? =some a→∃b,m[i]? =some b∧R a b
 |_,_,.nil,i,a,h=>by simp at h
 |_,_,.cons x r,0,a,h=>by
  simp at h
  subst h
  exact ⟨_,rfl,x⟩
 |_,_,.cons x r,i+1,a,h=>by
  simp only [List.getElem?_cons_succ] at h ⊢
  exact r.get h
def Kt (H H':Hp):Prop:=∀p xs,H p=some (.tup xs)→H' p=some (.tup xs)
theorem Kt.trans {H H1 H2:Hp}(a:Kt H H1)(b:Kt H1 H2):Kt H H2:=fun p xs h=>b p xs (a p xs h)
theorem A6 {H H':Hp}(s:Ai H H'):Kt H H':=fun p xs h=>s p _ h
theorem E6 {H:Hp}{D:Addr}{zs:List V}{o:HO}(h:H D=some (.lst zs)):Kt H (upd H D o):=fun p xs e=>by
 have ne:p≠D:=fun z=>by
  subst z
  rw [h] at e
  cases e
 rw [Ak ne]
 exact e
theorem Bs {H0 H:Hp}{D:Addr}{o:HO}(s:Ai H0 H)(h:H0 D=none):Ai H0 (upd H D o):=fun b u e=>by
 rw [Ak (A9 e h)]
 exact s b u e
theorem Gy {β:Type}{K:PySem.W.Frag}{a:Addr}{xs:List V}{ms:List β}{g:TG}{te:TE}{k:Nat}{js:List Nat}{σ:L2.St}{H1:Hp}{Q:VK}(M:Hp→V→β→Prop)(upM:∀v m H H',Kt H H'→M H v m→M H' v m)(R:Hp→β→V→Prop)(up:∀m y H H',Kt H H'→R H m y→R H' m y)
  (hz:xs.length≤1000) (hx:A0 K H1 a xs) (hm:Aw (M H1) xs ms)
  (hs:∀v m H2,M H2 v m→m∈ms→Ai H1 H2→∀P:VK,(∀y H3,Ai H2 H3→R H3 m y→P y H3)→g v (List.replicate k none++capσ js σ) H2 fun σ2 H3=>σ2.drop k=capσ js σ∧te σ2 H3 P)
  (hq:∀D H' ys,Ai H1 H'→H1 D=none→H' D=some (.lst ys)→Aw (R H') ms ys→Q (.ref D) H'):Kq (Itl K a) g te k js σ H1 Q:=by
 unfold Kq
 intro D hD
 have hl:=hm.len
 refine ⟨fun i m H=>m=xs.length-i∧i≤xs.length∧Ai H1 H∧∃ys,H D=some (.lst ys)∧Aw (R H) (ms.take i) ys,⟨xs.length,by simp,Nat.zero_le _,Al hD,[],Ad,.nil⟩,?_⟩
 rintro i m H ⟨rfl,hi,sm,ys,hH,ar⟩
 have sq:=sm.seq hx
 by_cases hlt:i<xs.length
 ·have e:xs[i]? =some xs[i]:=by simp [hlt]
  refine .inr ⟨⟨xs,_,sq,e⟩,fun x H' y=>?_⟩
  obtain ⟨e1,e2⟩:=y
  subst e1
  have hv:=e2 xs sq
  obtain ⟨m,hmi,hM⟩:=hm.get hv
  refine hs x m _ (upM _ _ _ _ (A6 sm) hM) (List.mem_of_getElem? hmi) sm _ fun y H3 s3 r3=>⟨ys,s3 _ _ hH,?_,xs.length-(i+1),by omega,rfl,hlt,Bs (sm.trans s3) hD,ys++[y],Ad,?_⟩
  ·rw [←ar.len,List.length_take]
   exact Nat.lt_of_le_of_lt (Nat.min_le_left _ _) (Nat.lt_of_lt_of_le hlt (Nat.le_trans hz (by decide)))
  ·have kt:Kt H3 (upd H3 D (.lst (ys++[y]))):=E6 (s3 _ _ hH)
   rw [List.take_add_one,hmi]
   exact (ar.imp fun v y r=>up v y _ _ ((A6 s3).trans kt) r).snoc (up _ _ _ _ kt r3)
 ·have e:i=xs.length:=by omega
  subst e
  rw [hl,List.take_length] at ar
  exact .inl ⟨⟨xs,sq,Nat.le_refl _⟩,hq D _ ys sm hD hH ar⟩
theorem Ww {β:Type}{K:PySem.W.Frag}{a:Addr}{xs:List V}{ms:List β}{g:TG}{tc:TT}{te:TE}{k:Nat}{js:List Nat}{σ:L2.St}{H1:Hp}{Q:VK}(M:Hp→V→β→Prop)(upM:∀v m H H',Kt H H'→M H v m→M H' v m)(R:Hp→β→V→Prop)(up:∀m y H H',Kt H H'→R H m y→R H' m y)
  (c:β→Bool) (hz:xs.length≤1000) (hx:A0 K H1 a xs) (hm:Aw (M H1) xs ms)
  (hs:∀v m H2,M H2 v m→m∈ms→Ai H1 H2→∀(P:VK) (P':Hp→Prop),(c m=true→∀y H3,Ai H2 H3→R H3 m y→P y H3)→(c m=false→∀H3,Ai H2 H3→P' H3)→g v (List.replicate k none++capσ js σ) H2 fun σ2 H3=>σ2.drop k=capσ js σ∧tc σ2 H3 fun b H4=>Br b (te σ2 H4 P) (P' H4))
  (hq:∀D H' ys,Ai H1 H'→H1 D=none→H' D=some (.lst ys)→Aw (R H') (ms.filter c) ys→Q (.ref D) H'):Gf (Itl K a) g tc te k js σ H1 Q:=by
 unfold Gf
 intro D hD
 have hl:=hm.len
 refine ⟨fun i m H=>m=xs.length-i∧i≤xs.length∧Ai H1 H∧∃ys,H D=some (.lst ys)∧Aw (R H) ((ms.take i).filter c) ys,⟨xs.length,by simp,Nat.zero_le _,Al hD,[],Ad,.nil⟩,?_⟩
 rintro i m H ⟨rfl,hi,sm,ys,hH,ar⟩
 have sq:=sm.seq hx
 by_cases hlt:i<xs.length
 ·have e:xs[i]? =some xs[i]:=by simp [hlt]
  refine .inr ⟨⟨xs,_,sq,e⟩,fun x H' y=>?_⟩
  obtain ⟨e1,e2⟩:=y
  subst e1
  have hv:=e2 xs sq
  obtain ⟨m,hmi,hM⟩:=hm.get hv
  have yl:ys.length<sizeLine:=by
   rw [←ar.len]
   refine Nat.lt_of_le_of_lt (List.length_filter_le _ _) ?_
   rw [List.length_take]
   exact Nat.lt_of_le_of_lt (Nat.min_le_left _ _) (Nat.lt_of_lt_of_le hlt (Nat.le_trans hz (by decide)))
  refine hs x m _ (upM _ _ _ _ (A6 sm) hM) (List.mem_of_getElem? hmi) sm _ _ (fun hc y H3 s3 r3=>⟨ys,s3 _ _ hH,yl,xs.length-(i+1),by omega,rfl,hlt,Bs (sm.trans s3) hD,ys++[y],Ad,?_⟩) fun hc H3 s3=>⟨xs.length-(i+1),by omega,rfl,hlt,sm.trans s3,ys,s3 _ _ hH,?_⟩
  ·have kt:Kt H3 (upd H3 D (.lst (ys++[y]))):=E6 (s3 _ _ hH)
   rw [List.take_add_one,hmi,List.filter_append]
   have ef:(Option.toList (some m)).filter c=[m]:=by simp [hc]
   rw [ef]
   exact (ar.imp fun v y r=>up v y _ _ ((A6 s3).trans kt) r).snoc (up _ _ _ _ kt r3)
  ·rw [List.take_add_one,hmi,List.filter_append]
   have ef:(Option.toList (some m)).filter c=[]:=by simp [hc]
   rw [ef,List.append_nil]
   exact ar.imp fun v y r=>up v y _ _ (A6 s3) r
 ·have e:i=xs.length:=by omega
  subst e
  rw [hl,List.take_length] at ar
  exact .inl ⟨⟨xs,sq,Nat.le_refl _⟩,hq D _ ys sm hD hH ar⟩
structure Gm where
 d:Int
 a:Str
 b:Str
 h:Int
 s:Int
def Ck (H:Hp)(v:V)(g:Gm):Prop:=∃p,v=.ref p∧H p=some (.tup [.int g.d,.str g.a,.str g.b,.int g.h,.int g.s])
theorem Dj (v:V)(g:Gm)(H H':Hp)(k:Kt H H')(h:Ck H v g):Ck H' v g:=by
 obtain ⟨p,e,r⟩:=h
 exact ⟨p,e,k _ _ r⟩
def Bk (K:PySem.W.Frag)(H:Hp)(L:Addr)(gs:List Gm):Prop:=∃vs,A0 K H L vs∧Aw (Ck H) vs gs∧gs.length≤100
def trn (g:Gm):Gm:=⟨g.d,g.b,g.a,2-g.h,-g.s⟩
def C7 (gs:List Gm):List Str:=Qq (gs.map (·.a)++gs.map (·.b))
def Aj4 (n:Str)(g:Gm):Bool:=n==g.a||n==g.b
def Ahu (n:Str)(g:Gm):Gm:=if g.a=n then g else trn g
def tld (n:Str)(gs:List Gm):List Gm:=(gs.filter (Aj4 n)).map (Ahu n)
def tkr (n:Str)(gs:List Gm):List Str:=Qq (((tld n gs).filter fun g=>decide (g.h<2)).map (·.b))
theorem Kc {f:Gm→Str}:∀{gs:List Gm} {ys:List V},Aw (fun g y=>y=V.str (f g)) gs ys→ys=(gs.map f).map V.str
 |_,_,.nil=>rfl
 |_,_,.cons e r=>by rw [e,Kc r];rfl
theorem B4 {gs:List Gm}{x:Str}:x∈C7 gs↔∃g∈gs,x=g.a∨x=g.b:=by
 unfold C7
 rw [Dx,List.mem_append,List.mem_map,List.mem_map]
 constructor
 ·rintro (⟨g,h,rfl⟩|⟨g,h,rfl⟩)
  ·exact ⟨g,h,.inl rfl⟩
  ·exact ⟨g,h,.inr rfl⟩
 ·rintro ⟨g,h,rfl|rfl⟩
  ·exact .inl ⟨g,h,rfl⟩
  ·exact .inr ⟨g,h,rfl⟩
section
variable {X:Cx}
end
def gd (g:Gm):PyData:=.tuple [.int g.d,.str g.a,.str g.b,.int g.h,.int g.s]
theorem Aah:∀{gs:List Gm},(∀g∈gs,PyData.strOk g.a=true∧PyData.strOk g.b=true)→PyData.canLayAll0 (gs.map gd)=true
 |[],_=>rfl
 |g::gs,h=>by
  obtain ⟨h1,h2⟩:=h g (List.mem_cons_self ..)
  show ((true&&(PyData.strOk g.a&&(PyData.strOk g.b&&true)))&&PyData.canLayAll0 (gs.map gd))=true
  rw [h1,h2,Aah fun y hy=>h y (List.mem_cons_of_mem _ hy)]
  rfl
theorem Uc:∀(gs:List Gm),PyData.depthAll (gs.map gd)≤1
 |[]=>Nat.zero_le _
 |g::gs=>by
  have e:(gd g).depth=1:=rfl
  show max (gd g).depth (PyData.depthAll (gs.map gd))≤1
  rw [e]
  have:=Uc gs
  omega
theorem Af8 {gs:List Gm}(h:∀g∈gs,PyData.strOk g.a=true∧PyData.strOk g.b=true):SeqAt.shaped (.list (gs.map gd))=true:=by
 unfold SeqAt.shaped
 have e:(PyData.list (gs.map gd)).depth=PyData.depthAll (gs.map gd)+1:=rfl
 have:=Uc gs
 rw [show (PyData.list (gs.map gd)).canLay0=true from Aah h,e,Bool.true_and]
 exact decide_eq_true (by omega)
theorem Us {K:PySem.W.Frag}{H:Hp}:∀{vs:List V} {gs:List Gm},Aw (Ck H) vs gs→Pb K H vs (gs.map gd)
 |_,_,.nil=>.nil
 |_,_,.cons ⟨p,e,h⟩ r=>by
  subst e
  exact .cons (.tup (Ed.of h) (.cons (.int _) (.cons (.str _) (.cons (.str _) (.cons (.int _) (.cons (.int _) .nil)))))) (Us r)
theorem Af5 {K:PySem.W.Frag}{H:Hp}{p:Addr}{vs:List V}{gs:List Gm}(h:A0 K H p vs)(a:Aw (Ck H) vs gs):Rp K H (.ref p) (.list (gs.map gd)):=.lst h (Us a)
theorem Eo {d:PyData}(h:SeqAt.shaped d=true):PyData.eqv d d=true:=SeqAt.eqv_refl d (SeqAt.canLay_of_shaped h)
theorem Vj {nm:List Str}{gs:List Gm}(h:∀g∈gs,g.a∈nm∧g.b∈nm){x:Str}(hx:x∈C7 gs):x∈nm:=by
 obtain ⟨g,hg,rfl|rfl⟩:=B4.mp hx
 ·exact (h g hg).1
 ·exact (h g hg).2
theorem Ab0 {nm:List Str}{gs:List Gm}(h:∀g∈gs,g.a∈nm∧g.b∈nm):(C7 gs).length≤nm.length:=Gz (D6 (Ch _)) fun x hx=>Vj h hx
end Lw
end
section
namespace Lw
open PySem PySem.Spec PyProof.Rows L2
section
variable {X:Cx}
end
end Lw
end
section
namespace Lw
open PySem PySem.Spec PyProof.Rows L2
section
variable {X:Cx}
end
structure QA (X:Cx)(es:List Expr)(t:TA):Prop where
 pa:PA X es t
end Lw
end
section
namespace Lw
open PySem PySem.Spec PyProof.Rows L2
section
variable {X:Cx}
end
end Lw
end
section
namespace Lw
open PySem PySem.Spec PyProof.Rows L2
def Xc (ns:List Int):Prop:=∀n∈ns,Builtin.Int.intBits n≤2 ^ 20
theorem Ac2 {ns:List Int}(h:PySem.W.WData.layableAll [PySem.W.WData.list (ns.map PySem.W.WData.int)]=true):Xc ns:=fun n hn=>by
 have h1:=PySem.W.layableW_arg h _ (List.mem_singleton.mpr rfl)
 have h2:=PySem.W.layableW_item h1 (.int n) (List.mem_map.mpr ⟨n,hn,rfl⟩)
 have h3:=PySem.W.lay0_int h2
 have h4:PyData.layable0 (.int n)=true:=by
  have:=h3
  simp only [PyData.layableAll0,List.all_cons,List.all_nil,Bool.and_true] at this
  exact this
 exact PyData.bits_of_layable h4
section
variable {X:Cx}
theorem Afx:C6 X (binaryOp .Mult) (dI IntMulOk fun i j=>.int (i*j)):=opD (opI fun _ _ _ _ _ _ _ hc q=>mul_int q hc)
end
section
variable {P:Program}{w:World}{K:PySem.W.Frag}{mg:Str→Option Value}{base:Heap}
end
open PySem PySem.W PySem.Calls PyProof.Rows in
theorem O0 {l:OpenLaw}{n:Nat}{q:Program}{loose:List Str}{XP:(Str→Option Value)→Heap→Prop}{YP:World→Heap→Prop}{d:DefRec}(hn:l.most=some n)(nodf:d.params.defaults=[])
  (go:∀(w:World) (t₀ t:Shared) (mg mb:Str→Option Value) (fa:Addr) (o:Obj) (pm cd doc:Value) (a:Addr) (vs:List Value) (ns:List Int),Xc ns→Ground q loose [] XP w t₀ mg mb t.heap→YP w t.heap→t.heap.get? fa=some o→o.data=.func (docDef d.name d.params d.body d.scope pm cd doc)→t.heap.CodeRec cd d.name→mg d.name=some (.ref fa)→t.heap.get? a=some { cls:=.type "list",data:=.seq vs.toArray }→IntsAre vs ns→ns.length≤n→t.gens=#[] →
   codeAny (model l.prog w) callerA (.call (.ref fa) ⟨[.ref a],[]⟩) (fun r z=>r=.ok (.ret (.bool true))∧OldK t.heap z.heap∧z.os=t.os∧AllBare z.gens) t):WalkO q loose XP YP l.row.toRowW d [] (fun f vs=>PySem.call f vs):=by
 intro w t₀ t mg mb G Y fa o pm cd doc dV kV x1 x2 x3 x4 x5 x6 args vals as pre lay rd wl lo
 have e1:dV=.none:=Dflts.none x4 nodf
 have e2:kV=.none:=Dflts.noKw x4
 subst e1 e2
 obtain ⟨a,vs,ns,rfl,rfl,y1,y2,y3⟩:=Att.script_of hn pre wl
 have run:=go w t₀ t mg mb fa o pm cd doc a vs ns (Ac2 lay) G Y x1 (fd_plain x2) x3 x5 y1 y2 y3 x6
 refine enter_call (codeAny_mono run fun r z hq=>?_)
 obtain ⟨rfl,z2,z3,z4⟩:=hq
 refine ⟨.inl ⟨.bool true,.bool true,[],rfl,fun _=>rfl,.bool true,Att.post_true l _,fun _=>⟨List.Pairwise.nil,fun _ no=>(nomatch no)⟩⟩,z2,z3,z4⟩
end Lw
end
section
namespace Lw
open PySem PySem.Spec PySem.W PyProof.Rows
def Rn {α:Type}(key:Nat→Int)(n:Nat):KasT α→(α→Prop)→Prop
 |.ret a,R=>R a
 |.ask i j k,R=>i<n∧j<n∧Rn key n (k (decide (key i<key j))) R
theorem Rn.bind {α β:Type}{key:Nat→Int}{n:Nat}{f:α→KasT β}{R:β→Prop}:∀{t:KasT α},Rn key n t (fun a=>Rn key n (f a) R)→Rn key n (t.bind f) R
 |.ret _,h=>h
 |.ask _ _ k,⟨h1,h2,h3⟩=>⟨h1,h2,Rn.bind (t:=k _) h3⟩
theorem Rn.mono {α:Type}{key:Nat→Int}{n:Nat}{R R':α→Prop}(hr:∀a,R a→R' a):∀{t:KasT α},Rn key n t R→Rn key n t R'
 |.ret a,h=>hr a h
 |.ask _ _ k,⟨h1,h2,h3⟩=>⟨h1,h2,Rn.mono hr (t:=k _) h3⟩
theorem Rn.wp {α:Type}{key:Nat→Int}{n:Nat}{cmp:Nat→Nat→(Bool→Shared→Prop)→Shared→Prop}{s:Shared}(hc:∀i j,i<n→j<n→∀C:Bool→Shared→Prop,C (decide (key i<key j)) s→cmp i j C s){Q:α→Shared→Prop}:∀{t:KasT α},Rn key n t (fun a=>Q a s)→t.kasWp cmp Q s
 |.ret _,h=>h
 |.ask i j k,⟨h1,h2,h3⟩=>hc i j h1 h2 _ (Rn.wp hc (t:=k _) h3)
section
variable {key:Nat→Int}{N:Nat}
def Pv (p:Array Nat)(k:Nat):Nat:=p[k]?.getD 0
theorem Ex (p:Array Nat)(k:Nat):p.getD k 0=Pv p k:=by
 unfold Pv
 exact Array.getD_eq_getD_getElem? ..
theorem E3 {p:Array Nat}{i j:Nat}(hj:j≤p.size)(k:Nat):Pv (kas_rev p i j) k=if i≤k∧k<j then Pv p (i+j-1-k) else Pv p k:=by
 unfold Pv kas_rev
 rw [getElem?_mirror_all hj]
 split<;>rfl
theorem Agg {p:Array Nat}{src d:Nat}(hs:src<p.size)(hd:d≤src)(k:Nat):Pv (bubble p src d) k=if k=src-d then Pv p src else if src-d<k∧k≤src then Pv p (k-1) else Pv p k:=by
 unfold Pv
 rw [getElem?_bubble hs d hd]
 split
 ·rfl
 ·split<;>rfl
theorem Xx (p:Array Nat)(i j:Nat):(kas_rev p i j).size=p.size:=mirror_size _ _ _ _
def Lt (key:Nat→Int)(i j:Nat):Prop:=key i<key j∨(key i=key j∧i<j)
structure Ih (N:Nat)(p:Array Nat)(n:Nat):Prop where
 sz:p.size=N
 tl:∀k,n≤k→k<N→Pv p k=k
 hd:∀k,k<n→Pv p k<n
 le:n≤N
theorem Ih.lt {p:Array Nat}{n:Nat}(h:Ih N p n){k:Nat}(hk:k<N):Pv p k<N:=by
 by_cases c:k<n
 ·have:=h.hd k c
  have:=h.le
  omega
 ·rw [h.tl k (by omega) hk]
  exact hk
theorem Ih.one {p:Array Nat}{n:Nat}(h:Ih N p n)(hn:n<N):Ih N p (n+1):=⟨h.sz,fun k h1 h2=>h.tl k (by omega) h2,fun k hk=>by
 by_cases c:k<n
 ·have:=h.hd k c
  omega
 ·have:k=n:=by omega
  subst this
  rw [h.tl k (Nat.le_refl _) hn]
  exact hk,hn⟩
theorem Ih.rev {p:Array Nat}{n i:Nat}(h:Ih N p n){j:Nat}(hj:j≤n):Ih N (kas_rev p i j) n:=⟨by rw [Xx,h.sz],fun k h1 h2=>by
 rw [E3 (by rw [h.sz];have:=h.le;omega),if_neg (by omega)]
 exact h.tl k h1 h2,fun k hk=>by
 rw [E3 (by rw [h.sz];have:=h.le;omega)]
 split
 ·exact h.hd _ (by omega)
 ·exact h.hd k hk,h.le⟩
def As (key:Nat→Int)(p:Array Nat)(n:Nat):Prop:=∀a b,a<b→b<n→Lt key (Pv p a) (Pv p b)
theorem Agi {p:Array Nat}{n:Nat}(h:Ih N p n)(ha:As key p n)(h1:1≤n)(hn:n<N)(hk:¬key (Pv p n)<key (Pv p (n-1))):As key p (n+1):=fun a b hab hb=>by
 by_cases c:b<n
 ·exact ha a b hab c
 ·have:b=n:=by omega
  subst this
  have e:=h.tl b (Nat.le_refl _) hn
  have l:=h.hd a hab
  rw [e] at hk ⊢
  have q:key (Pv p a)≤key (Pv p (b-1)):=by
   by_cases d:a=b-1
   ·rw [d]
    exact Int.le_refl _
   ·rcases ha a (b-1) (by omega) (by omega) with x|x<;>omega
  by_cases d:key (Pv p a)<key b
  ·exact .inl d
  ·exact .inr ⟨by omega,l⟩
theorem S4 {p:Array Nat}:∀(f n:Nat),Ih N p n→As key p n→1≤n→n+f=N→Rn key N (kas_asc p f n) fun m=>Ih N p m∧As key p m∧n≤m∧(m<N→key (Pv p m)<key (Pv p (m-1)))
 |0,n,h,ha,h1,e=>⟨h,ha,Nat.le_refl _,fun c=>by omega⟩
 | f+1,n,h,ha,h1,e=>by
  show _<N∧_<N∧Rn key N _ _
  rw [Ex,Ex]
  refine ⟨h.lt (by omega),h.lt (by omega),?_⟩
  by_cases c:key (Pv p n)<key (Pv p (n-1))
  ·rw [decide_eq_true c]
   exact ⟨h,ha,Nat.le_refl _,fun _=>c⟩
  ·rw [decide_eq_false c]
   exact Rn.mono (fun m ⟨a1,a2,a3,a4⟩=>⟨a1,a2,by omega,a4⟩) (S4 f (n+1) (h.one (by omega)) (Agi h ha h1 (by omega) c) (by omega) (by omega))
def Da (key:Nat→Int)(p:Array Nat)(n:Nat):Prop:=∀a b,a<b→b<n→Lt key (Pv p b) (Pv p a)
structure De (key:Nat→Int)(p:Array Nat)(n q:Nat):Prop where
 ql:q<n
 dn:∀a b,a<b→b<n→a+q+1<n→Lt key (Pv p b) (Pv p a)
 gp:∀a,a+q+1<n→key (Pv p (n-1))<key (Pv p a)
 eq:∀a b,n≤a+q+1→a<b→b<n→key (Pv p a)=key (Pv p b)∧Pv p a<Pv p b
theorem De.all {p:Array Nat}{n q:Nat}(h:Ih N p n)(d:De key p n q):Da key (kas_rev p (n-(q+1)) n) n:=by
 have hz:n≤p.size:=by rw [h.sz];exact h.le
 have ql:=d.ql
 refine fun a b hab hb=>?_
 rw [E3 hz,E3 hz]
 by_cases ca:n-(q+1)≤a
 ·rw [if_pos ⟨by omega,hb⟩,if_pos ⟨ca,by omega⟩]
  obtain ⟨e,l⟩:=d.eq (n-(q+1)+n-1-b) (n-(q+1)+n-1-a) (by omega) (by omega) (by omega)
  exact .inr ⟨e,l⟩
 ·rw [if_neg (show ¬(n-(q+1)≤a∧a<n) by omega)]
  split
  ·exact d.dn a _ (by omega) (by omega) (by omega)
  ·exact d.dn a b hab hb (by omega)
theorem De.zero {p:Array Nat}{n:Nat}(d:De key p n 0):Da key p n:=fun a b hab hb=>d.dn a b hab hb (by omega)
theorem De.last {p:Array Nat}{n q:Nat}(d:De key p n q){a:Nat}(ha:a<n):key (Pv p (n-1))≤key (Pv p a):=by
 have ql:=d.ql
 by_cases e:a=n-1
 ·rw [e]
  exact Int.le_refl _
 ·by_cases c:a+q+1<n
  ·exact Int.le_of_lt (d.gp a c)
  ·have:=(d.eq a (n-1) (by omega) (by omega) (by omega)).1
   omega
theorem Da.below {p:Array Nat}{n:Nat}(h:Ih N p n)(d:Da key p n)(hn:n<N)(hk:∀a,a<n→key n<key (Pv p a)):De key p (n+1) 0:=⟨by omega,fun a b hab hb _=>by
 by_cases c:b<n
 ·exact d a b hab c
 ·have:b=n:=by omega
  subst this
  rw [h.tl b (Nat.le_refl _) hn]
  exact .inl (hk a hab),fun a ha=>by
 show key (Pv p n)<_
 rw [h.tl n (Nat.le_refl _) hn]
 exact hk a (by omega),fun a b h1 h2 h3=>by omega⟩
theorem De.same {p:Array Nat}{n q:Nat}(h:Ih N p n)(d:De key p n q)(hn:n<N)(hk:key n=key (Pv p (n-1))):De key p (n+1) (q+1):=by
 have ql:=d.ql
 have e:=h.tl n (Nat.le_refl _) hn
 refine ⟨by omega,fun a b hab hb hq=>?_,fun a ha=>?_,fun a b h1 h2 h3=>?_⟩
 ·by_cases c:b<n
  ·exact d.dn a b hab c (by omega)
  ·have:b=n:=by omega
   subst this
   rw [e]
   have:=d.gp a (by omega)
   exact .inl (by omega)
 ·show key (Pv p n)<_
  rw [e,hk]
  exact d.gp a (by omega)
 ·by_cases c:b<n
  ·exact d.eq a b (by omega) h2 c
  ·have:b=n:=by omega
   subst this
   rw [e]
   refine ⟨?_,h.hd a h2⟩
   by_cases z:a=b-1
   ·rw [z]
    exact hk.symm
   ·rw [hk]
    exact (d.eq a (b-1) (by omega) (by omega) (by omega)).1
theorem Lf:∀(f:Nat) {p:Array Nat} {n q:Nat},Ih N p n→De key p n q→n+f=N→Rn key N (kas_desc f p n q) fun r=>Ih N r.1 r.2.1∧De key r.1 r.2.1 r.2.2
 |0,p,n,q,h,d,e=>⟨h,d⟩
 | f+1,p,n,q,h,d,e=>by
  have ql:=d.ql
  have hn:n<N:=by omega
  show _<N∧_<N∧Rn key N _ _
  rw [Ex,Ex]
  have en:=h.tl n (Nat.le_refl _) hn
  refine ⟨h.lt hn,h.lt (by omega),?_⟩
  by_cases c:key (Pv p n)<key (Pv p (n-1))
  ·simp only [decide_eq_true c,↓reduceIte]
   rw [en] at c
   by_cases z:q>0
   ·rw [if_pos z]
    have h':=h.rev (i:=n-(q+1)) (Nat.le_refl n)
    refine Lf f (h'.one hn) ((d.all h).below h' hn fun a ha=>?_) (by omega)
    rw [E3 (by rw [h.sz];omega)]
    split
    ·have:=d.last (a:=n-(q+1)+n-1-a) (by omega)
     omega
    ·have:=d.last ha
     omega
   ·rw [if_neg z]
    have:q=0:=by omega
    subst this
    exact Lf f (h.one hn) (d.zero.below h hn fun a ha=>by have:=d.last ha;omega) (by omega)
  ·simp only [decide_eq_false c,Bool.false_eq_true,↓reduceIte]
   show _<N∧_<N∧Rn key N _ _
   refine ⟨h.lt (by omega),h.lt hn,?_⟩
   by_cases c':key (Pv p (n-1))<key (Pv p n)
   ·simp only [decide_eq_true c',↓reduceIte]
    exact ⟨h,d⟩
   ·simp only [decide_eq_false c',Bool.false_eq_true,↓reduceIte]
    exact Lf f (h.one hn) (d.same h hn (by rw [en] at c c';omega)) (by omega)
theorem Da.turn {p:Array Nat}{n:Nat}(h:Ih N p n)(d:Da key p n):As key (kas_rev p 0 n) n:=fun a b hab hb=>by
 have hz:n≤p.size:=by rw [h.sz];exact h.le
 rw [E3 hz,E3 hz,if_pos ⟨Nat.zero_le _,by omega⟩,if_pos ⟨Nat.zero_le _,hb⟩]
 exact d _ _ (by omega) (by omega)
theorem Rz {p:Array Nat}{n:Nat}(h:Ih N p n)(d:Da key p n)(h1:1≤n):Rn key N (kas_tail3 n N p) fun r=>Ih N r.2 r.1∧As key r.2 r.1∧1≤r.1:=by
 unfold kas_tail3
 exact Rn.bind (Rn.mono (fun m ⟨a1,a2,a3,_⟩=>⟨a1,a2,by omega⟩) (S4 (N-n) n (h.rev (Nat.le_refl n)) (d.turn h) h1 (by have:=h.le;omega)))
theorem V0 {p:Array Nat}{n:Nat}(h:Ih N p n)(d:Da key p n)(h1:1≤n)(hn:n<N)(hk:∀a,a<n→key n<key (Pv p a)):Rn key N (kas_descPart n N p) fun r=>Ih N r.2 r.1∧As key r.2 r.1∧1≤r.1:=by
 unfold kas_descPart
 refine Rn.bind (Rn.mono ?_ (Lf (N-(n+1)) (h.one hn) (d.below h hn hk) (by omega)))
 rintro ⟨p',n',q'⟩ ⟨h',d'⟩
 have ql:=d'.ql
 have ql:q'<n':=ql
 show Rn key N (if q'>0 then kas_tail3 n' N (kas_rev p' (n'-(q'+1)) n') else kas_tail3 n' N p') _
 by_cases z:q'>0
 ·rw [if_pos z]
  exact Rz (h'.rev (Nat.le_refl _)) (d'.all h') (by omega)
 ·rw [if_neg z]
  have:q'=0:=by omega
  subst this
  exact Rz h' d'.zero (by omega)
theorem Y4 {p:Array Nat}(h:Ih N p 1)(hN:1≤N):Rn key N (kas_count N p) fun r=>Ih N r.2 r.1∧As key r.2 r.1∧1≤r.1:=by
 unfold kas_count
 refine Rn.bind (Rn.mono ?_ (S4 (N-1) 1 h (fun a b h1 h2=>by omega) (Nat.le_refl _) (by omega)))
 intro n ⟨h',a',n1,lo⟩
 have le:=h'.le
 by_cases e:(n==N)=true
 ·rw [if_pos e]
  exact ⟨h',a',n1⟩
 ·rw [if_neg e]
  have hn:n<N:=by
   have:n≠N:=fun c=>e (by simp [c])
   omega
  have lo:=lo hn
  rw [h'.tl n (Nat.le_refl _) hn] at lo
  by_cases z:n>1
  ·rw [if_pos z]
   show _<N∧_<N∧Rn key N _ _
   rw [Ex,Ex]
   refine ⟨h'.lt (by omega),h'.lt (by omega),?_⟩
   by_cases c:key (Pv p 0)<key (Pv p (n-1))
   ·simp only [decide_eq_true c,↓reduceIte]
    exact ⟨h',a',n1⟩
   ·simp only [decide_eq_false c,Bool.false_eq_true,↓reduceIte]
    have hz:n≤p.size:=by rw [h'.sz];exact le
    have mono:∀a b,a≤b→b<n→key (Pv p a)≤key (Pv p b):=fun a b hab hb=>by
     by_cases e:a=b
     ·rw [e]
      exact Int.le_refl _
     ·rcases a' a b (by omega) hb with x|x<;>omega
    have alike:∀a,a<n→key (Pv p a)=key (Pv p (n-1)):=fun a ha=>by
     have:=mono 0 a (by omega) ha
     have:=mono a (n-1) (by omega) (by omega)
     omega
    refine V0 (h'.rev (Nat.le_refl n)) (fun a b hab hb=>?_) n1 hn fun a ha=>?_
    ·rw [E3 hz,E3 hz,if_pos ⟨Nat.zero_le _,hb⟩,if_pos ⟨Nat.zero_le _,by omega⟩]
     exact a' _ _ (by omega) (by omega)
    ·rw [E3 hz,if_pos ⟨Nat.zero_le _,ha⟩,alike _ (by omega)]
     exact lo
  ·rw [if_neg z]
   have:n=1:=by omega
   subst this
   exact V0 h' (fun a b h1 h2=>by omega) n1 hn fun a ha=>by
    have:a=0:=by omega
    subst this
    exact lo
theorem Me {p:Array Nat}{k:Nat}(h:Ih N p k)(ha:As key p k)(hk:k<N):∀(f l r:Nat),l≤r→r≤k→r≤l+f→(∀a,a<l→¬key k<key (Pv p a))→(∀a,r≤a→a<k→key k<key (Pv p a))→Rn key N (kas_place p k f l r) fun m=>m≤k∧(∀a,a<m→¬key k<key (Pv p a))∧∀a,m≤a→a<k→key k<key (Pv p a)
 |0,l,r,lr,rk,rf,lo,hi=>⟨by omega,lo,fun a h1 h2=>hi a (by omega) h2⟩
 | f+1,l,r,lr,rk,rf,lo,hi=>by
  unfold kas_place
  by_cases c:l≥r
  ·rw [if_pos c]
   exact ⟨by omega,lo,fun a h1 h2=>hi a (by omega) h2⟩
  ·rw [if_neg c]
   show _<N∧_<N∧Rn key N _ _
   rw [Ex,Ex]
   refine ⟨h.lt hk,h.lt (by omega),?_⟩
   rw [h.tl k (Nat.le_refl _) hk]
   have mono:∀a b,a≤b→b<k→key (Pv p a)≤key (Pv p b):=fun a b hab hb=>by
    by_cases e:a=b
    ·rw [e]
     exact Int.le_refl _
    ·rcases ha a b (by omega) hb with x|x<;>omega
   by_cases d:key k<key (Pv p ((l+r) / 2))
   ·simp only [decide_eq_true d,↓reduceIte]
    refine Me h ha hk f l ((l+r) / 2) (by omega) (by omega) (by omega) lo fun a h1 h2=>?_
    have:=mono _ _ h1 h2
    omega
   ·simp only [decide_eq_false d,Bool.false_eq_true,↓reduceIte]
    refine Me h ha hk f ((l+r) / 2+1) r (by omega) rk (by omega) (fun a h1=>?_) hi
    have:=mono a ((l+r) / 2) (by omega) (by omega)
    omega
theorem Aaq:∀(f:Nat) {p:Array Nat} {k:Nat},Ih N p k→As key p k→k+f=N→Rn key N (kas_bin f p k) fun p'=>Ih N p' N∧As key p' N
 |0,p,k,h,ha,e=>by
  have:k=N:=by omega
  subst this
  exact ⟨h,ha⟩
 | f+1,p,k,h,ha,e=>by
  have hk:k<N:=by omega
  unfold kas_bin
  refine Rn.bind (Rn.mono ?_ (Me h ha hk k 0 k (Nat.zero_le _) (Nat.le_refl _) (by omega) (fun a h1=>by omega) fun a h1 h2=>by omega))
  intro m ⟨mk,lo,hi⟩
  have hs:k<p.size:=by rw [h.sz];exact hk
  have at':=Agg hs (d:=k-m) (by omega)
  have e1:k-(k-m)=m:=by omega
  rw [e1] at at'
  have en:=h.tl k (Nat.le_refl _) hk
  rw [en] at at'
  refine Aaq f ⟨by rw [bubble_size,h.sz],fun a h1 h2=>?_,fun a h1=>?_,by omega⟩ (fun a b hab hb=>?_) (by omega)
  ·rw [at',if_neg (by omega),if_neg (by omega)]
   exact h.tl a (by omega) h2
  ·rw [at']
   split
   ·omega
   ·split
    ·have:=h.hd (a-1) (by omega)
     omega
    ·have:=h.hd a (by omega)
     omega
  ·rw [at',at']
   by_cases ca:a=m
   ·rw [if_pos ca,if_neg (by omega),if_pos (by omega)]
    exact .inl (hi (b-1) (by omega) (by omega))
   ·rw [if_neg ca]
    by_cases cb:b=m
    ·rw [if_pos cb,if_neg (by omega)]
     have:=lo a (by omega)
     have l:=h.hd a (by omega)
     by_cases d:key (Pv p a)<key k
     ·exact .inl d
     ·exact .inr ⟨by omega,l⟩
    ·rw [if_neg cb]
     by_cases c1:m<a
     ·rw [if_pos (by omega),if_pos (by omega)]
      exact ha _ _ (by omega) (by omega)
     ·rw [if_neg (by omega)]
      by_cases c2:m<b
      ·rw [if_pos (by omega)]
       exact ha _ _ (by omega) (by omega)
      ·rw [if_neg (by omega)]
       exact ha a b hab (by omega)
theorem Xy {N k:Nat}(h:k<N):Pv (List.toArray (List.range N)) k=k:=by
 unfold Pv
 simp [h]
theorem Abd (hN:1≤N):Rn key N (kas_sort N) fun p=>Ih N p N∧As key p N:=by
 unfold kas_sort
 refine Rn.bind (Rn.mono ?_ (Y4 (p:=List.toArray (List.range N)) ⟨by simp,fun k _ h2=>Xy h2,fun k hk=>by
  have:k=0:=by omega
  subst this
  rw [Xy (by omega)]
  omega,hN⟩ hN))
 rintro ⟨m,p⟩ ⟨h,ha,m1⟩
 have h:Ih N p m:=h
 have m1:1≤m:=m1
 show Rn key N (if m<N then kas_bin (N-max m 1) p (max m 1) else .ret p) _
 have le:=h.le
 by_cases c:m<N
 ·rw [if_pos c,Nat.max_eq_left m1]
  exact Aaq (N-m) h ha (by omega)
 ·rw [if_neg c]
  have:m=N:=by omega
  subst this
  exact ⟨h,ha⟩
end
end Lw
end
section
namespace Lw
open PySem PySem.Spec PySem.W PyProof.Rows L2
def Ll (key:Nat→Int)(n:Nat)(p:List Nat):Prop:=p.length=n∧(∀i∈p,i<n)∧p.Pairwise (Lt key)
def Kp (a:Addr)(h h':Heap):Prop:=∀b o,b≠a→h.get? b=some o→h'.get? b=some o
def Ks (key:Nat→Int)(ks:List Value):Prop:=∀i k,ks[i]? =some k→∃t,k=Value.int (key i) t
theorem Ks.snoc {key:Nat→Int}{ks:List Value}{t:Tok}(h:Ks key ks):Ks key (ks++[Value.int (key ks.length) t]):=fun i k e=>by
 rw [List.getElem?_append] at e
 split at e
 ·exact h i k e
 ·rename_i c
  cases q:i-ks.length with
  |zero=>
   rw [q] at e
   have e:Value.int (key ks.length) t=k:=by simpa using e
   have:i=ks.length:=by omega
   rw [this]
   exact ⟨t,e.symm⟩
  |succ m=>
   rw [q] at e
   simp at e
def Nc (vs:List Value)(p:List Nat):List Value:=p.map fun i=>vs.getD i Value.none
theorem Ra (vs:List Value):Nc vs (List.range vs.length)=vs:=by
 refine List.ext_getElem (by simp [Nc]) fun i h1 h2=>?_
 simp [Nc,h2]
theorem Acc {key:Nat→Int}{n:Nat}(h:n<2):Ll key n (List.range n):=by
 refine ⟨List.length_range,fun i hi=>List.mem_range.mp hi,?_⟩
 match n,h with
 |0,_=>exact .nil
 |1,_=>exact List.pairwise_singleton _ _
theorem Agb {key:Nat→Int}{n:Nat}{p:Array Nat}(h:Ih n p n)(ha:As key p n):Ll key n p.toList:=by
 have pv:∀i (hi:i<p.toList.length),p.toList[i]=Pv p i:=fun i hi=>by
  have hi':i<p.size:=by simpa using hi
  unfold Pv
  simp [hi']
 refine ⟨by rw [Array.length_toList,h.sz],fun i hi=>?_,List.pairwise_iff_getElem.mpr fun i j hi hj hij=>?_⟩
 ·obtain ⟨k,hk,rfl⟩:=List.getElem_of_mem hi
  rw [pv k hk]
  exact h.lt (by rw [Array.length_toList,h.sz] at hk;exact hk)
 ·rw [pv i hi,pv j hj]
  exact ha i j hij (by rw [Array.length_toList,h.sz] at hj;exact hj)
section
variable {prog:Program}{w:World}{A:Around}{E:Value→Shared→Prop}{s:Shared}{a kS:Addr}{vs:List Value}
theorem Vi {st:SortSt}{e e1:Nat}{ks out:List Value}{P:PySem.Fin→Shared→Prop}(hne:kS≠a)(hk:s.heap.get? kS=some (seqObj "list" (List.toArray ks) e))(ha:s.heap.get? a=some (seqObj "list" #[] e1))
  (hout:(arrOf st).map (·.2)=List.toArray out) (hz:out.length<64) (hkz:ks.length<64) (hf:failedOf st=none)
  (h:∀h' n,(∀b o,b≠a→b≠kS→s.heap.get? b=some o→h'.get? b=some o)→h'.get? a=some (seqObj "list" (List.toArray out) n)→P (.done (.ret .none)) { s with heap:=h' }) :
  wpAny (model prog w) A (ksk_tail a false e1 (.ref kS) st) P E s:=by
 have s1:=Heap.SameBut.update s.heap kS (Obj.mapSeq fun _=>(#[]:Array Value))
 have ha1:(s.heap.update kS (Obj.mapSeq fun _=>(#[]:Array Value))).get? a=some (seqObj "list" #[] e1):=(s1.2 a (Ne.symm hne)).trans ha
 have s2:=Heap.SameBut.update (s.heap.update kS (Obj.mapSeq fun _=>(#[]:Array Value))) a (Obj.mapSeq fun _=>List.toArray out)
 obtain ⟨c2,hc2⟩:∃c2,((s.heap.update kS (Obj.mapSeq fun _=>(#[]:Array Value))).update a (Obj.mapSeq fun _=>List.toArray out)).get? a=some (seqObj "list" (List.toArray out) c2):=⟨_,get?_update_seq ha1 fun _=>List.toArray out⟩
 unfold ksk_tail
 try dsimp only
 rw [hout]
 refine wpAny_bind (listUpdate_at hk rfl ?_ (by rw [List.size_toArray,sizeLine_eq];omega) (Nat.zero_le _))
 refine wpAny_bind (wpAny_letGo ?_)
 refine wpAny_bind (seqEpoch_at ha1 rfl ?_)
 refine wpAny_bind (listUpdate_at ha1 rfl ?_ (Nat.zero_le _) (by show (List.toArray out).size≤_;rw [List.size_toArray,sizeLine_eq];omega))
 rw [hf]
 simp only [bne_self_eq_false,Bool.false_eq_true,if_false]
 exact wpAny_pure (h _ c2 (fun b o n1 n2 q=>(s2.2 b n1).trans ((s1.2 b n2).trans q)) hc2)
theorem Afs {key:Nat→Int}{e e1:Nat}{ks:List Value}{P:PySem.Fin→Shared→Prop}(hne:kS≠a)(hk:s.heap.get? kS=some (seqObj "list" (List.toArray ks) e))(ha:s.heap.get? a=some (seqObj "list" #[] e1))(hl:ks.length=vs.length)(h64:vs.length<64)(hks:Ks key ks)
  (h:∀h' n p,Ll key vs.length p→(∀b o,b≠a→b≠kS→s.heap.get? b=some o→h'.get? b=some o)→h'.get? a=some (seqObj "list" (List.toArray (Nc vs p)) n)→P (.done (.ret .none)) { s with heap:=h' }) :
  wpAny (model prog w) A (ksk_end a false vs.toArray e1 (.ref kS) (List.toArray ks)) P E s:=by
 unfold ksk_end
 try dsimp only
 simp only [Bool.false_eq_true,if_false]
 by_cases h2:vs.length<2
 ·have h2':vs.toArray.size<2:=by rwa [List.size_toArray]
  rw [if_pos h2',if_pos h2']
  refine wpAny_bind (wpAny_pure ?_)
  rw [StateT.run_pure]
  refine wpAny_bind (wpAny_pure ?_)
  try dsimp only
  refine Vi (out:=Nc vs (List.range vs.length)) hne hk ha ?_ (by rw [Ra];exact h64) (by omega) rfl (fun h' n=>h h' n _ (Acc h2))
  rw [Ra]
  show ((List.toArray ks).zip vs.toArray).map (·.2)=_
  refine Array.ext (by simp [hl]) fun i h1 h2=>?_
  simp
 ·have h2':¬vs.toArray.size<2:=by rwa [List.size_toArray]
  rw [if_neg h2',if_neg h2']
  refine wpAny_bind (kas_kind (T:=.type "int") (by omega) (fun v hv=>?_) rfl rfl ?_)
  ·obtain ⟨i,hi,rfl⟩:=List.getElem_of_mem hv
   obtain ⟨t,e⟩:=hks i _ (List.getElem?_eq_getElem hi)
   rw [e]
   exact .now
  ·refine wpAny_bind (wpAny_mono (kat_run (E:=E) (Q:=fun st' s'=>s'=s∧∃p:Array Nat,Ll key vs.length p.toList∧(arrOf st').map (·.2)=List.toArray (Nc vs p.toList)∧failedOf st'=none)
    (G:=fun p s'=>s'=s∧Ll key vs.length p.toList) hl (by omega) h64 (fun p' st' s' a1 a2 a3 ⟨a4,a5⟩=>⟨a4,p',a5,kat_snds hl a2,a3⟩) ?_) (fun r s' hq=>?_) fun _ _ x=>x)
   ·refine Rn.wp (key:=key) (n:=vs.length) (fun i j hi hj C c=>?_) (Rn.mono (fun p hp=>⟨rfl,Agb hp.1 hp.2⟩) (Abd (by omega)))
    unfold kas_ask
    have gi:∀i,i<vs.length→∃t,ks.getD i Value.none=.int (key i) t:=fun i hi=>by
     have hi':i<ks.length:=by omega
     obtain ⟨t,e⟩:=hks i _ (List.getElem?_eq_getElem hi')
     exact ⟨t,by rw [List.getD_eq_getElem?_getD,List.getElem?_eq_getElem hi',Option.getD_some,e]⟩
    obtain ⟨t1,e1⟩:=gi i hi
    obtain ⟨t2,e2⟩:=gi j hj
    rw [e1,e2]
    exact kat_lt_int c
   ·obtain ⟨rfl,p,hs,ho,hf⟩:=hq
    obtain ⟨⟨⟩,st'⟩:=r
    try dsimp only
    exact Vi hne hk ha ho (by unfold Nc;rw [List.length_map,hs.1];exact h64) (by omega) hf fun h' n=>h h' n _ hs
theorem Aii {key:Nat→Int}{f:Value}{n:Nat}{P:PySem.Fin→Shared→Prop}(ho:s.heap.get? a=some (seqObj "list" vs.toArray n))(h64:vs.length<64)
  (hk:∀(i:Nat) (v:Value) (h1:Heap) (t1:Nat),vs[i]? =some v→Kp a s.heap h1→∀Q:Value→Shared→Prop,(∀h2 t2 t,(∀b o,h1.get? b=some o→h2.get? b=some o)→Q (.int (key i) t) { s with heap:=h2,toks:=t2 }) →
   wpAny (model prog w) A (call f [v]) Q (fun _ _=>False) { s with heap:=h1,toks:=t1 })
  (h:∀h' t n p,Ll key vs.length p→Kp a s.heap h'→h'.get? a=some (seqObj "list" (List.toArray (Nc vs p)) n)→P (.done (.ret .none)) { s with heap:=h',toks:=t }) :
  wpAny (model prog w) A (ksk_tree a f false) P E s:=by
 have al:a<s.heap.objs.size:=Heap.lt_size ho
 have s1:=Heap.SameBut.update s.heap a (Obj.mapSeq fun _=>(#[]:Array Value))
 obtain ⟨e1,ho1⟩:∃e1,(s.heap.update a (Obj.mapSeq fun _=>(#[]:Array Value))).get? a=some (seqObj "list" #[] e1):=⟨_,get?_update_seq ho fun _=>#[]⟩
 have hkS:((s.heap.update a (Obj.mapSeq fun _=>(#[]:Array Value))).push (seqObj "tuple" vs.toArray 0)).objs.size=s.heap.objs.size+1:=by rw [size_push',Heap.size_update]
 unfold ksk_tree
 refine wpAny_bind (listItems_at ho rfl ?_)
 refine wpAny_bind (listUpdate_at ho rfl ?_ (by rw [List.size_toArray,sizeLine_eq];omega) (Nat.zero_le _))
 refine wpAny_bind (seqEpoch_at ho1 rfl ?_)
 refine wpAny_bind (wpAny_newTuple ?_ (by show vs.length≤_;rw [sizeLine_eq];omega))
 refine wpAny_bind (wpAny_newList ?_ (Nat.zero_le _))
 refine wpAny_holding ?_
 have kne:((s.heap.update a (Obj.mapSeq fun _=>(#[]:Array Value))).push (seqObj "tuple" vs.toArray 0)).objs.size≠a:=by rw [hkS];exact Nat.ne_of_gt (Nat.lt_succ_of_lt al)
 have kk:=Heap.get?_push_size ((s.heap.update a (Obj.mapSeq fun _=>(#[]:Array Value))).push (seqObj "tuple" vs.toArray 0)) (o:=seqObj "list" #[] 0) rfl
 have ka:(((s.heap.update a (Obj.mapSeq fun _=>(#[]:Array Value))).push (seqObj "tuple" vs.toArray 0)).push (seqObj "list" #[] 0)).get? a=some (seqObj "list" #[] e1):=Heap.get?_push_of_some _ (Heap.get?_push_of_some _ ho1)
 have kp:Kp a s.heap (((s.heap.update a (Obj.mapSeq fun _=>(#[]:Array Value))).push (seqObj "tuple" vs.toArray 0)).push (seqObj "list" #[] 0)):=fun b o ne e=>
  Heap.get?_push_of_some _ (Heap.get?_push_of_some _ ((s1.2 b ne).trans e))
 have kold:s.heap.objs.size≤((s.heap.update a (Obj.mapSeq fun _=>(#[]:Array Value))).push (seqObj "tuple" vs.toArray 0)).objs.size:=by rw [hkS];exact Nat.le_succ _
 show wpAny (model prog w) A (ksk_rest a f false vs.toArray e1 (.ref ((s.heap.update a (Obj.mapSeq fun _=>(#[]:Array Value))).push (seqObj "tuple" vs.toArray 0)).objs.size)) P E { s with heap:=((s.heap.update a (Obj.mapSeq fun _=>(#[]:Array Value))).push (seqObj "tuple" vs.toArray 0)).push (seqObj "list" #[] 0) }
 generalize ((s.heap.update a (Obj.mapSeq fun _=>(#[]:Array Value))).push (seqObj "tuple" vs.toArray 0)).push (seqObj "list" #[] 0)=g at kk ka kp
 generalize ((s.heap.update a (Obj.mapSeq fun _=>(#[]:Array Value))).push (seqObj "tuple" vs.toArray 0)).objs.size=kS at kk kne kold
 unfold ksk_rest
 refine wpAny_bind (wpAny_rule ?_)
 first
  |rw [List.forIn_toArray]
  |(rw [←Array.forIn_toList];simp only [List.toList_toArray])
  |rw [←Array.forIn_toList]
 refine wpAny_bind (ksk_fold (fun i s'=>∃h' t ks e,s'={ s with heap:=h',toks:=t }∧Kp a s.heap h'∧h'.get? a=some (seqObj "list" #[] e1)∧h'.get? kS=some (seqObj "list" (List.toArray ks) e)∧ks.length=i∧Ks key ks) vs 0 _ ⟨g,s.toks,[],0,rfl,kp,ka,kk,rfl,fun i k e=>by simp at e⟩ (fun j x s' hx ⟨h',t,ks,e,es,k1,k2,k3,k4,k5⟩=>?_) fun s' ⟨h',t,ks,e,es,k1,k2,k3,k4,k5⟩=>?_)
 ·subst es
  rw [Nat.zero_add] at k4
  refine wpAny_bind (wpAny_attempt (wpAny_mono (hk j x h' t hx k1 (fun k s''=>∃h2 t2 tk,k=.int (key j) tk∧s''={ s with heap:=h2,toks:=t2 }∧∀b o,h'.get? b=some o→h2.get? b=some o) fun h2 t2 tk kk=>⟨h2,t2,tk,rfl,rfl,kk⟩) (fun k s'' hq=>?_) fun _ _ x=>x.elim))
  obtain ⟨h2,t2,tk,rfl,rfl,kk2⟩:=hq
  have jl:j<vs.length:=(List.getElem?_eq_some_iff.mp hx).1
  have ea:(List.toArray ks).push (Value.int (key j) tk)=List.toArray (ks++[Value.int (key j) tk]):=by simp
  have s3:=Heap.SameBut.update h2 kS (Obj.mapSeq (·.push (Value.int (key j) tk)))
  obtain ⟨c2,hc2⟩:∃c2,(h2.update kS (Obj.mapSeq (·.push (Value.int (key j) tk)))).get? kS=some (seqObj "list" (List.toArray (ks++[Value.int (key j) tk])) c2):=⟨_,by rw [←ea];exact get?_update_seq (kk2 _ _ k3) (·.push (Value.int (key j) tk))⟩
  try dsimp only
  refine wpAny_bind (listUpdate_at (kk2 _ _ k3) rfl ?_ (by rw [List.size_toArray,sizeLine_eq];omega) (Nat.le_trans (Nat.le_of_eq (Array.size_push ..)) (by rw [List.size_toArray,sizeLine_eq];omega)))
  refine wpAny_pure ⟨rfl,_,t2,ks++[Value.int (key j) tk],c2,rfl,fun b o ne q=>(s3.2 b ?_).trans (kk2 _ _ (k1 b o ne q)),(s3.2 a (Ne.symm kne)).trans (kk2 _ _ k2),hc2,by rw [List.length_append,k4];simp,?_⟩
  ·intro e
   exact absurd (Heap.lt_size q) (by rw [e];exact Nat.not_lt.mpr kold)
  ·have:=k5.snoc (t:=tk)
   rwa [k4] at this
 ·subst es
  rw [Nat.zero_add] at k4
  refine wpAny_bind (listItems_at k3 rfl ?_)
  refine Afs (key:=key) kne k3 k2 k4 h64 k5 fun h2 n2 p hp kk2 hc=>h h2 t n2 p hp (fun b o ne q=>kk2 b o ne ?_ (k1 b o ne q)) hc
  intro e
  exact absurd (Heap.lt_size q) (by rw [e];exact Nat.not_lt.mpr kold)
theorem Acj {key:Nat→Int}{f l:Addr}{Q:Value→Shared→Prop}(hl:s.heap.IsList l vs.toArray)(h64:vs.length<64)
  (hk:∀(i:Nat) (v:Value) (h1:Heap) (t1:Nat),vs[i]? =some v→(∀b o,s.heap.get? b=some o→h1.get? b=some o)→∀Q:Value→Shared→Prop,(∀h2 t2 t,(∀b o,h1.get? b=some o→h2.get? b=some o)→Q (.int (key i) t) { s with heap:=h2,toks:=t2 }) →
   wpAny (model prog w) A.in1.in1 (call (.ref f) [v]) Q (fun _ _=>False) { s with heap:=h1,toks:=t1 })
  (h:∀D h' t n p,s.heap.objs.size≤D→Ll key vs.length p→(∀b o,s.heap.get? b=some o→h'.get? b=some o)→h'.get? D=some (seqObj "list" (List.toArray (Nc vs p)) n)→Q (.ref D) { s with heap:=h',toks:=t }) :
  wpAny (model prog w) A (call (.builtin "sorted") [.ref l] [(Str.ofString "key",.ref f)]) Q E s:=by
 refine call_function_entry_kw kind_sorted plain_sorted entry_sorted (ksk_s1 _ _) ?_
 unfold Builtin.«sorted»
 refine wpAny_bind (m:=checkCount "sorted" 1 1 _) (wpAny_pure ?_)
 refine wpAny_bind (collect_list hl ?_ (by rw [sizeLine_eq];omega))
 refine wpAny_bind (wpAny_newList ?_ (by rw [sizeLine_eq];omega))
 have hsz:((s.heap.push (seqObj "list" #[] 0)).update s.heap.objs.size (Obj.mapSeq (· ++ vs.toArray))).objs.size=s.heap.objs.size+1:=by
  rw [Heap.size_update,size_push']
 have hoL:(((s.heap.push (seqObj "list" #[] 0)).update s.heap.objs.size (Obj.mapSeq (· ++ vs.toArray))).push (seqObj "list" vs.toArray 0)).get? (s.heap.objs.size+1)=some (seqObj "list" vs.toArray 0):=by
  rw [←hsz];exact Heap.get?_push_size _ rfl
 have keep:∀b o,s.heap.get? b=some o→(((s.heap.push (seqObj "list" #[] 0)).update s.heap.objs.size (Obj.mapSeq (· ++ vs.toArray))).push (seqObj "list" vs.toArray 0)).get? b=some o:=fun b o q=>by
  have hlt:b<s.heap.objs.size:=Heap.lt_size q
  rw [Heap.get?_push_ne _ _ _ (by rw [hsz];exact Nat.ne_of_lt (Nat.lt_succ_of_lt hlt)),Heap.get?_update_ne _ _ _ _ (Nat.ne_of_lt hlt),Heap.get?_push_ne _ _ _ (Nat.ne_of_lt hlt)]
  exact q
 show wpAny _ _ _ _ _ { s with heap:=((s.heap.push (seqObj "list" #[] 0)).update s.heap.objs.size (Obj.mapSeq (· ++ vs.toArray))).push (seqObj "list" vs.toArray 0) }
 rw [hsz]
 have ne:∀b o,s.heap.get? b=some o→b≠s.heap.objs.size+1:=fun b o e=>Nat.ne_of_lt (Nat.lt_succ_of_lt (Heap.lt_size e))
 refine wpAny_bind (wpAny_holding (wpAny_call_entry_kw slot_list_sort ⟨_,hoL,rfl⟩ entry_list_sort ?body (ksk_l1 _ _)))
 case body=>
  show wpAny (model prog w) A.in1.in1 (Builtin.«list.sort» ⟨[.ref (s.heap.objs.size+1)],[(Str.ofString "key",.ref f)]⟩) _ _ _
  rw [ksk_t1]
  refine Aii (s:={ s with heap:=((s.heap.push (seqObj "list" #[] 0)).update s.heap.objs.size (Obj.mapSeq (· ++ vs.toArray))).push (seqObj "list" vs.toArray 0) }) (key:=key) hoL h64 (fun i v h1 t1 hv k Q hq=>hk i v h1 t1 hv (fun b o e=>k b o (ne b o e) (keep b o e)) Q hq) fun h' t n p hp k hD=>?_
  exact ⟨_,rfl,wpAny_pure ⟨_,rfl,h _ h' t n p (Nat.le_succ _) hp (fun b o e=>k b o (ne b o e) (keep b o e)) hD⟩⟩
end
abbrev Nj (v:Str)(p1 p2 p3:Pos):Expr:=.Subscript (.Name v p1) (.Constant (.int 0) 0 p2) p3
abbrev Ql (v:Str)(p:Pos):Arguments:={ posonlyargs:=[],args:=[{ arg:=v,annotation:=none,pos:=p }],vararg:=none,kwonlyargs:=[],kw_defaults:=[],kwarg:=none,defaults:=[] }
abbrev K4 (v:Str):Scope:={ kind:=.function,names:=[(v,.local)],isGenerator:=false,isCoroutine:=false,more:=[] }
section
variable {prog:Program}{w:World}{A:Around}{E:Value→Shared→Prop}{s:Shared}
theorem Aav {v:Str}{p1 p2 p3 p4:Pos}{name qual:Str}{pm ctv:Value}{c f a:Addr}{l:List Value}{x:Value}{Q:Value→Shared→Prop}
  (hroom:A.depth<recursionLimit) (ho:s.heap.get? f=some (kla_obj name qual (Ql v p4) (Nj v p1 p2 p3) (K4 v) [] pm c ctv)) (hcd:s.heap.CodeRec (.ref c) qual) (hnl:s.heap.NoLimit)
  (hd:(v==("__debug__":Str))=false) (hb:bindArgs (kla_fn name qual (Ql v p4) (Nj v p1 p2 p3) (K4 v) [] pm (.ref c) ctv) ⟨[.ref a],[]⟩=pure [(v,.ref a)])
  (ht:IsTup s.heap a l.toArray) (hx:l[0]? =some x)
  (h:∀h' t,(∀b o,s.heap.get? b=some o→h'.get? b=some o)→Q x { s with heap:=h',toks:=t }) :
  wpAny (model prog w) A (call (.ref f) [.ref a]) Q E s:=by
 refine wpAny_call (kla_callFunE hroom ho rfl rfl rfl rfl hcd ?_)
 show wpAny (model prog w) A.in1 (bindArgs (kla_fn name qual (Ql v p4) (Nj v p1 p2 p3) (K4 v) [] pm (.ref c) ctv) ⟨[.ref a],[]⟩) _ _ _
 rw [hb]
 have lk:(K4 v).names.lookup v=some .local:=by
  show List.lookup v [(v,NameKind.local)]=_
  rw [List.lookup_cons,beq_self_eq_true]
 refine wpAny_pure (wpAny_newFunctionEnv (fun y hy=>?_) (fun y hy=>?_) (fun h1 hns hsb=>⟨hnl.fresh _ hsb,?_⟩) rfl)
 ·obtain rfl:y=(v,.local):=List.mem_singleton.mp hy
  exact fun z=>nomatch z
 ·obtain rfl:y=(v,.ref a):=List.mem_singleton.mp hy
  exact lk
 have hk1:∀b o,s.heap.get? b=some o→h1.get? b=some o:=fun b o e=>hsb.extBut b o (Nat.ne_of_lt (Heap.lt_size e)) (Heap.get?_push_of_some _ e)
 show codeAny _ _ (.expr (Nj v p1 p2 p3) (envX qual (K4 v) s.heap.objs.size f (.ref c) [])) _ _
 refine kla_codeExpr (Subscript_ ?_)
 rw [eval_Name _ _ _ hd]
 refine wpAny_bind (wpAny_standAt (wpAny_loadName_local rfl lk hns (v:=.ref a) ?_ ?_))
 ·show List.lookup v [(v,Value.ref a)]=_
  rw [List.lookup_cons,beq_self_eq_true]
 ·have ht1:IsTup h1 a l.toArray:=by
   obtain ⟨o,e1,e2⟩:=ht
   exact ⟨o,hk1 _ _ e1,e2⟩
  have l0:0<l.length:=(List.getElem?_eq_some_iff.mp hx).1
  refine wpAny_Constant_int ?_
  refine item_tupleL (j:=0) ht1 (by decide) (by decide) (by rw [seqIndex_of (by decide) (by omega)];rfl) hx ?_
  exact h _ _ hk1
end
def Abf (c:Addr)(q:Str):HO:=.ext fun h=>h.CodeRec (.ref c) q
theorem P0 {c:Addr}{q:Str}{h1 h2:Heap}(h:h1.CodeRec (.ref c) q)(k:∀o,h1.get? c=some o→h2.get? c=some o):h2.CodeRec (.ref c) q:=by
 obtain ⟨c',oc,vs,t,e,ho,r⟩:=h
 cases e
 exact ⟨c,oc,vs,t,rfl,k _ ho,r⟩
def Ay (H:Hp)(P:Addr)(pos:Pos)(q:Str):Prop:=∃ps,H P=some (.tbl ps)∧TriplesOk ps.toList∧(codeAmong pos ps.toList=none∨∃c,codeAmong pos ps.toList=some (.ref c)∧H c=some (Abf c q))
theorem Ay.up {H H':Hp}{P:Addr}{pos:Pos}{q:Str}(s:Ai H H')(h:Ay H P pos q):Ay H' P pos q:=by
 obtain ⟨ps,h1,h2,h3⟩:=h
 refine ⟨ps,s _ _ h1,h2,h3.imp id ?_⟩
 rintro ⟨c,e1,e2⟩
 exact ⟨c,e1,s _ _ e2⟩
theorem Sh {pos:Pos}{c:Value}:∀(l:List Value),TriplesOk l→TriplesOk (l++[rawInt pos.line,rawInt pos.col,c]):=fun l h=>by
 fun_induction TriplesOk l with
 |case1=>exact trivial
 |case2 a t b u x Ef ih=>exact ih h
 |case3=>exact h.elim
def BmB (mg:Str→Option Value)(base:Heap):Prop:=∃(bm:Addr) (ob:Obj),mg "__builtins__"=some (.ref bm)∧bm≠builtinsNs∧base.get? bm=some ob∧ob.cls=.type "module"∧ob.dict=some builtinsNs∧ob.data=.plain
structure Xw (K:PySem.W.Frag)(mg:Str→Option Value)(base:Heap)(cdv:Value)(P:Addr):Prop where
 c:∃c,cdv=.ref c∧codeHdIn K c P=true
 bm:BmB mg base
section
variable {X:Cx}{pins:List (Addr×Obj)}{σ:L2.St}{H:Hp}{s:Shared}{P:Addr}{lp:Pos}{q:Str}
theorem Adt (tf:Xw X.K X.mg X.base X.env.code P)(I:Ap X pins σ H s){ps:Array Value}(e:s.heap.get? P=some (tabObj ps)):s.heap.BuiltinsAt X.mg P:=by
 obtain ⟨bm,ob,h1,h2,h3,h4,h5,h6⟩:=tf.bm
 have e2:=I.bk _ _ h3
 refine ⟨bm,_,h1,h2,fun z=>?_,fun z=>?_,e2,h4,h5,h6⟩
 ·obtain ⟨o,es,ep,ho,hd,_⟩:=I.mod.glob
  rw [z,I.bk _ _ ho] at e2
  cases e2
  rw [hd] at h6
  cases h6
 ·rw [z,e] at e2
  cases e2
  cases h4
theorem Yy {h':Heap}{t':Nat}{ps more:Array Value}{c:Addr}(I:Ap X pins σ H s)(e:H P=some (.tbl ps))(k:Heap.ExtBut P s.heap h')(hP:h'.get? P=some (tabObj (ps++more)))(hc:s.heap.objs.size≤c)(hr:h'.CodeRec (.ref c) q) :
  Ap X pins σ (upd (upd H P (.tbl (ps++more))) c (Abf c q)) { s with heap:=h',toks:=t' }:=by
 have hcn:H c=none:=I.hok.fresh hc
 have Pl:P<s.heap.objs.size:=I.hok.lt e
 have Pc:P≠c:=Nat.ne_of_lt (Nat.lt_of_lt_of_le Pl hc)
 have up:∀b o,b≠P→H b=some o→upd (upd H P (.tbl (ps++more))) c (Abf c q) b=some o:=fun b o n x=>by
  rw [Ak (A9 x hcn),Ak n]
  exact x
 have nP:∀b,H b=none→b≠P:=fun b n z=>by
  rw [z,e] at n
  cases n
 refine I.un ⟨fun b o x n _ _=>k b o (nP b n) x,fun b o x n _ _=>⟨o.slots,k b o (nP b n) x⟩,fun b o x n _=>?_,fun b o x _=>?_,fun b xs x=>?_,fun b o u x=>?_,fun b qs x=>?_⟩ fun b u x=>?_
 ·rw [Ak (Nat.ne_of_lt (Nat.lt_of_lt_of_le (Heap.lt_size x) hc)),Ak (nP b n)]
  exact n
 ·by_cases z:b=P
  ·rw [z]
   exact ⟨_,hP⟩
  ·exact ⟨_,k b o z x⟩
 ·exact up b _ (fun z=>by rw [z,e] at x;cases x) x
 ·exact up b _ (fun z=>by rw [z,e] at x;cases x) x
 ·by_cases z:b=P
  ·rw [z,e] at x
   cases x
   rw [z,Ak Pc,Ad]
   exact ⟨more,rfl⟩
  ·exact ⟨#[],by rw [up b _ z x];simp⟩
 ·by_cases z:b=c
  ·rw [z,Ad] at x
   cases x
   obtain ⟨c',oc,vs,t,e',ho,r⟩:=id hr
   cases e'
   rw [z]
   exact ⟨hr,⟨oc,ho⟩,fun h1 h2 a b=>P0 a b⟩
  ·rw [Ak z] at x
   by_cases z2:b=P
   ·rw [z2,Ad] at x
    cases x
    rw [z2]
    exact hP
   ·rw [Ak z2] at x
    refine (I.hok b u x).stay (fun d v hd y=>k d v ?_ y) (fun d y=>up d _ (fun z=>by rw [z,e] at y;cases y) y) fun d xs y=>up d _ (fun z=>by rw [z,e] at y;cases y) y
    rcases hd with rfl|hd
    ·exact z2
    ·intro z
     rw [z,e] at hd
     cases hd
theorem Yl {v:Str}{p1 p2 p3 p4:Pos}{Q:Value→Shared→Prop}(tf:Xw X.K X.mg X.base X.env.code P)(I:Ap X pins σ H s)(hT:Ay H P lp (X.env.qual++"<lambda>"))
  (h:∀f c H' s' pm ctv,Ap X pins σ H' s'→(∀b o,b≠P→H b=some o→H' b=some o)→Ay H' P lp (X.env.qual++"<lambda>")→s'.heap.get? f=some (kla_obj "<lambda>" (X.env.qual++"<lambda>") (Ql v p4) (Nj v p1 p2 p3) (K4 v) [] pm c ctv)→s'.heap.CodeRec (.ref c) (X.env.qual++"<lambda>")→Q (.ref f) s') :
  wpAny (model X.prog X.w) X.A (eval (.Lambda (Ql v p4) (Nj v p1 p2 p3) (K4 v) lp) X.env) Q X.xe s:=by
 obtain ⟨ps,e,tr,hT⟩:=hT
 obtain ⟨c,ec,hd⟩:=tf.c
 have eP:s.heap.get? P=some (tabObj ps):=I.hok P _ e
 have C:CodeHd s.heap c P:=codeHd_of_K I.kIn hd
 have G:s.heap.Ns mainGlobals X.mg:=I.mod.glob.keeps I.bk
 have hcl:closureFor (K4 v) X.env=pure []:=rfl
 refine kla_eval rfl ?_
 rcases hT with hn|⟨c',hc',ec'⟩
 ·have gP:mainGlobals≠P:=fun z=>by
   obtain ⟨o,es,ep,ho,hd,_⟩:=G
   rw [z,eP] at ho
   cases ho
   cases hd
  refine kla_makeFunction hcl I.ok.glob G ec C eP tr hn gP (Adt tf I eP) fun c' ctv h' tk k1 k2 k3 k4 k5=>?_
  have I2:=Yy (t':=tk) I e k1 k5 k2 k4
  have I3:=I2.kept (h':=h'.push (kla_obj "<lambda>" (X.env.qual++"<lambda>") (Ql v p4) (Nj v p1 p2 p3) (K4 v) [] ((X.mg "__name__").getD .none) c' ctv)) (t':=tk) fun b u x=>Heap.get?_push_of_some _ x
  have hcn:H c'=none:=I.hok.fresh k2
  refine h _ c' _ _ _ ctv I3 (fun b o n x=>by rw [Ak (A9 x hcn),Ak n];exact x) ⟨ps++#[rawInt lp.line,rawInt lp.col,.ref c'],?_,?_,.inr ⟨c',?_,Ad⟩⟩ (Heap.get?_push_size _ rfl) ?_
  ·rw [Ak (A9 e hcn),Ad]
  ·rw [Array.toList_append]
   exact Sh _ tr
  ·rw [Array.toList_append]
   exact codeAmong_snoc _ tr hn
  ·exact P0 k4 fun o x=>Heap.get?_push_of_some _ x
 ·refine kla_makeFunctionHit hcl I.ok.glob G ec C eP tr hc' (Adt tf I eP) fun ctv h' tk k1 k2=>?_
  have I3:=I.kept (h':=h'.push (kla_obj "<lambda>" (X.env.qual++"<lambda>") (Ql v p4) (Nj v p1 p2 p3) (K4 v) [] ((X.mg "__name__").getD .none) c' ctv)) (t':=tk) fun b u x=>Heap.get?_push_of_some _ (k1 _ _ x)
  refine h _ c' _ _ _ ctv I3 (fun b o n x=>x) ⟨ps,e,tr,.inr ⟨c',hc',ec'⟩⟩ (Heap.get?_push_size _ rfl) ?_
  obtain ⟨y1,_,y3⟩:A4 X.prog X.w H s.heap c' (Abf c' (X.env.qual++"<lambda>")):=I.hok c' _ ec'
  exact y3 _ _ y1 fun o x=>Heap.get?_push_of_some _ (k1 _ _ x)
def Ad9 (K:PySem.W.Frag)(P:Addr)(lp:Pos)(q:Str):List V→Hp→VK→Prop:=fun us H1 Q=>∃(l:Addr) (xs:List V) (key:Nat→Int),us=[.ref l]∧A0 K H1 l xs∧xs.length<64 ∧
 (∀i v,xs[i]? =some v→∃a ys,v=.ref a∧H1 a=some (.tup (.int (key i)::ys)))∧Ay H1 P lp q ∧
 ∀D H2 p,(∀b o,b≠P→H1 b=some o→H2 b=some o)→H1 D=none→H2 D=some (.lst (p.map fun i=>xs.getD i .non))→Ay H2 P lp q→Ll key xs.length p→Q (.ref D) H2
theorem On {xs:List V}{its:List Value}(rv:Az xs its):∀{L:List Nat},(∀i∈L,i<xs.length)→Az (L.map fun i=>xs.getD i .non) (L.map fun i=>its.getD i Value.none)
 |[],_=>.nil
 |i::L,h=>by
  have hi:=h i List.mem_cons_self
  obtain ⟨v,hv,r⟩:=rv.get (List.getElem?_eq_getElem hi)
  rw [List.map_cons,List.map_cons]
  refine .cons ?_ (On rv fun j hj=>h j (List.mem_cons_of_mem _ hj))
  rw [List.getD_eq_getElem?_getD,List.getD_eq_getElem?_getD,hv,List.getElem?_eq_getElem hi]
  exact r
theorem Abp {v:Str}{e:Expr}{ta:TA}{p p1 p2 p3 p4 kp pos:Pos}{k:Nat}(tf:Xw X.K X.mg X.base X.env.code P)(hr:Bu (k+2) X.A)(hg:Gl X "sorted")(hm:X.mg "sorted"=none)(ha:PA X [e] ta)(hd:(v==("__debug__":Str))=false:=by decide)
  (hst:starEach [e] X.env=[(false,eval e X.env)]:=by rfl) (hb:∀(nm ql:Str) (pm cd ct:Value) (a:Addr),bindArgs (PySem.W.kla_fn nm ql (Ql v p4) (Nj v p1 p2 p3) (K4 v) [] pm cd ct) ⟨[.ref a],[]⟩=pure [(v,.ref a)]:=by intros;rfl) :
  PE X (.Call (.Name "sorted" p) [e] [⟨some "key",.Lambda (Ql v p4) (Nj v p1 p2 p3) (K4 v) lp,kp⟩] pos) (tCB (Ad9 X.K P lp (X.env.qual++"<lambda>")) ta):=by
 intro pins s σ H Q I h
 refine wpAny_Call_Name_kw (Fr I hg hm K0 ?_)
 refine callWith_kw (Ba (ha pos pins s σ H _ I h) fun us s1 ⟨vs,H1,I1,r1,q1⟩=>?_) (by rw [hst];rfl) (by rw [hst];rfl)
 obtain ⟨l,xs,key,ex,hq,hl,ht,hT,q⟩:=q1
 subst ex
 obtain ⟨u,rfl,ru⟩:=r1.one
 cases (show u=Value.ref l from ru)
 refine kws_cons ?_
 refine Yl (v:=v) (p1:=p1) (p2:=p2) (p3:=p3) (p4:=p4) tf I1 hT fun f c H2 s2 pm ctv I2 k2 hT2 hf hcd=>?_
 refine kws_nil ?_
 show wpAny (model X.prog X.w) X.A (call (.builtin "sorted") [.ref l] [(Str.ofString "key",.ref f)]) _ _ _
 obtain ⟨ps,eP,_⟩:=hT
 have hq2:A0 X.K H2 l xs:=by
  rcases hq with (h|⟨o,h⟩)|h
  ·exact .inl (.inl (k2 _ _ (fun z=>by rw [z,eP] at h;cases h) h))
  ·exact .inl (.inr ⟨o,k2 _ _ (fun z=>by rw [z,eP] at h;cases h) h⟩)
  ·exact .inr h
 obtain ⟨its,rv,⟨oL,nL,eL,cL,dL,xL⟩,hz⟩:=I2.list hq2
 have hlen:its.length=xs.length:=rv.length.symm
 refine Acj (key:=key) (vs:=its) ⟨oL,eL,cL,nL,xL⟩ (by omega) (fun i v' h1 t1 hv k1 Q' hQ=>?_) fun D h' t n pp hD st k' hd'=>?_
 ·have hi:i<xs.length:=by
   rw [←hlen]
   exact (List.getElem?_eq_some_iff.mp hv).1
  obtain ⟨a,ys,e1,e2⟩:=ht i _ (List.getElem?_eq_getElem hi)
  have g:=rv.get (List.getElem?_eq_getElem hi)
  rw [e1] at g
  obtain ⟨u',hu,ru'⟩:=g
  rw [hv] at hu
  cases hu
  cases (show v'=Value.ref a from ru')
  have e3:=k2 _ _ (fun z=>by rw [z,eP] at e2;cases e2) e2
  obtain ⟨_,tl,rt,ob,ho,r2⟩:A4 X.prog X.w H2 s2.heap a (.tup (.int (key i)::ys)):=I2.hok a _ e3
  cases rt with
  |cons r3 r4=>
   obtain ⟨tk,rfl⟩:=r3
   refine Aav (s:={ s2 with heap:=h1,toks:=t1 }) (hr.in1.in1.depth) (k1 _ _ hf) (P0 hcd fun o x=>k1 _ _ x) (I2.nolimit.keeps k1) hd (hb _ _ _ _ _ _) (l:=Value.int (key i) tk::_) ⟨ob,k1 _ _ ho,r2⟩ rfl fun h2 t2 k3=>hQ h2 t2 tk k3
 ·have hn2:H2 D=none:=I2.hok.fresh hD
  have hn1:H1 D=none:=by
   cases c:H1 D with
   |none=>rfl
   | some o=>
    by_cases z:D=P
    ·obtain ⟨ps2,e2,_⟩:=hT2
     rw [z,e2] at hn2
     cases hn2
    ·rw [k2 _ _ z c] at hn2
     cases hn2
  have I3:=I2.laid (t':=t) (h':=h') (a:=D) (o:=.lst (pp.map fun i=>xs.getD i .non)) k' hD ⟨by rw [List.length_map,st.1,hlen];exact hz,Nc its pp,n,On rv fun i hi=>by rw [←hlen];exact st.2.1 i hi,hd'⟩
  refine ⟨.ref D,_,I3,rfl,q D _ pp (fun b o nb x=>?_) hn1 Ad (hT2.up fun b o x=>?_) (by rw [←hlen];exact st)⟩
  ·have x2:=k2 b o nb x
   rw [Ak (A9 x2 hn2)]
   exact x2
  ·rw [Ak (A9 x hn2)]
   exact x
end
def O2 (K:PySem.W.Frag)(x:Str):Addr:=match PySem.W.tabIn K x with
 |some (_,P)=>P
 |none=>0
structure Adz (K:PySem.W.Frag)(mg:Str→Option Value)(base:Heap)(x:Str):Prop where
 tb:∃(f:Addr) (oc:Value) (od:Option Addr) (fd:FuncData) (sl:Array (Option Value)) (c:Addr),mg x=some (.ref f)∧K.lookup f=some ⟨oc,od,.func fd,sl⟩∧fd.code=.ref c∧codeHdIn K c (O2 K x)=true
 bm:BmB mg base
theorem Afc {K:PySem.W.Frag}{x:Str}{f c P:Addr}{oc cl:Value}{od cd:Option Addr}{fd:FuncData}{sl cs:Array (Option Value)}{vs:Array Value}(h1:PySem.W.nsIn K mainGlobals x=some (some (.ref f)))(h2:K.lookup f=some ⟨oc,od,.func fd,sl⟩)(h3:fd.code=.ref c)(h4:K.lookup c=some ⟨cl,cd,.fields vs,cs⟩)(h5:(vs[11]?:Option Value)=some (.ref P)):PySem.W.tabIn K x=some (c,P):=by
 unfold PySem.W.tabIn
 rw [h1]
 dsimp only
 rw [h2]
 dsimp only
 rw [h3]
 dsimp only
 rw [h4]
 dsimp only
 rw [h5]
theorem Vf {K:PySem.W.Frag}{x:Str}{c P:Addr}(h:PySem.W.tabIn K x=some (c,P)):O2 K x=P:=by
 unfold O2
 rw [h]
section
variable {P:Program}{w:World}{K:PySem.W.Frag}{mg:Str→Option Value}{base:Heap}
theorem B0.calT {x:Str}{st:Stmt}{N ps:List Str}{k:Nat}{sp:Sp}(d:B0 K mg x st ps)(tk:Adz K mg base x)(S:Ao N ps (Ag st))(len:∀vs H Q E,sp vs H Q E→vs.length=ps.length)
  (hbody:∀(f:Addr) (cdv:Value) (A:Around) (outer:List Env) (s:Shared) (H:Hp) (vs:List V) (Q:VK) (E:XK),Xw K mg base cdv (O2 K x)→Bu k (A.deeper (envOfC x (Ag st) s.heap.objs.size f cdv))→sp vs H Q E →
   ∃t,Ko (Dh (F9 P w) P w K mg base N x (Ag st) f cdv A outer s H E).nox (Bp st) t∧t { nx:=fun _ H'=>Q .non H',rt:=Q } (F7 N vs) H):Bf P w K mg base x ps (k+1) sp:=by
 obtain ⟨f,fd,F,hm,hb⟩:=d.ex
 obtain ⟨oc,od,kV,doc,pm,an,cdv,ct,osl,rfl,lk,hcd⟩:=F.ex
 obtain ⟨f',oc',od',fd',sl',c,m1,m2,m3,m4⟩:=tk.tb
 rw [hm] at m1
 cases m1
 rw [lk] at m2
 cases m2
 have tf:Xw K mg base cdv (O2 K x):=⟨⟨c,m3,m4⟩,tk.bm⟩
 exact ⟨f,_,hm,F.kp,hb,X6 lk hcd S len fun A outer s H vs Q E hr hsp=>by
  obtain ⟨t,h,q⟩:=hbody f cdv A outer s H vs Q E tf hr hsp
  exact ⟨t,h.nox,q⟩,oc,od,osl,lk⟩
end
def Yh (T:Addr)(H:Hp):Prop:=H T=some (.tbl #[])∧∀b,b≠T→H b=none∨∃o xs,H b=some (.frz o (.lst xs))
theorem Wb {P:Program}{w:World}{K:PySem.W.Frag}{mg mb:Str→Option Value}{CX:Xm}{k:Nat}{fa a cc T:Addr}{fd:FuncData}{x:Str}{sp:Sp}{t:Shared}{vs:List Value}{ns:List Int}
  (KX:K.In t.heap) (glob:t.heap.Ns mainGlobals mg) (blt:t.heap.Ns builtinsNs mb) (boot:∀x:Str,x≠"__name__"→mb x=bootBuiltins x) (lim:t.heap.NoLimit) (gens:t.gens=#[])
  (ca:t.heap.get? a=some { cls:=.type "list",data:=.seq vs.toArray }) (ia:IntsAre vs ns) (short:ns.length≤sizeLine) (room:Bu k callerA)
  (C:CodeHd t.heap cc T) (eT:t.heap.get? T=some (tabObj #[])) (kT:K.lookup T=none)
  (bmT:BmB mg t.heap) (F:∀base:Heap,K.In base→base.Ns mainGlobals mg→BmB mg base→Gv P w K mg base CX k fa fd [x] sp) (bind:∀(s:Shared) (u:Value),BindsTo s fd ⟨[u],[]⟩ [(x,u)])
  (want:∀H:Hp,Yh T H→A0 K H a (ns.map V.int)→sp [.ref a] H (fun v _=>v=.bl true) fun _ _ _=>False)
  (fly:∀H e s',CX [] H t (fun _ _ _=>False) e s'→False) :
  codeAny (model P w) callerA (.call (.ref fa) ⟨[.ref a],[]⟩) (fun r z=>r=.ok (.ret (.bool true))∧OldK t.heap z.heap∧z.os=t.os∧AllBare z.gens) t:=by
 have aT:a≠T:=fun z=>by
  rw [z,eT] at ca
  cases ca
 have core:∀H:Hp,Yh T H→A0 K H a (ns.map V.int)→G9 P w H t.heap→(∀b,H b≠none→b=a∨b=T)→(H a≠none→K.lookup a=none) →
   codeAny (model P w) callerA (.call (.ref fa) ⟨[.ref a],[]⟩) (fun r z=>r=.ok (.ret (.bool true))∧OldK t.heap z.heap∧z.os=t.os∧AllBare z.gens) t:=by
  intro H only sq hok two notK
  have nodict:∀{b:Addr} {o:Obj} {es:Array DictEntry} {ep:Nat},t.heap.get? b=some o→o.data=.dict es ep→H b=none:=fun {b o es ep} e d=>by
   cases c:H b with
   |none=>rfl
   | some u=>
    rcases two b (by rw [c];simp) with z|z
    ·subst z
     rw [ca] at e
     cases e
     cases d
    ·subst z
     rw [eT] at e
     cases e
     cases d
  have nsB:∀{b:Addr} {m:Str→Option Value},t.heap.Ns b m→(Pe t.heap H).Ns b m:=fun ⟨o,es,ep,e,d,r⟩=>⟨o,es,ep,Mn e (nodict e d),d,r⟩
  have kB:K.In (Pe t.heap H):=fun b o e=>Mn (KX b o e) (by
   cases c:H b with
   |none=>rfl
   | some u=>
    rcases two b (by rw [c];simp) with z|z
    ·subst z
     rw [notK (by rw [c];simp)] at e
     cases e
    ·subst z
     rw [kT] at e
     cases e)
  have md:Mod K mg (Pe t.heap H):=⟨kB,nsB glob,⟨mb,nsB blt,boot⟩,let ⟨mc,y1,y2⟩:=lim;⟨mc,nsB y1,y2⟩⟩
  have e0:Tg P w K mg (Pe t.heap H) callerA [] t H:=⟨rfl,md,fun b o e=>Abl e,Nat.le_of_eq (W5 _ _),trivial,fun b hb=>absurd (show b∈([]:List Addr) from hb) (by simp),hok,.of_eq gens⟩
  have bmB:BmB mg (Pe t.heap H):=by
   obtain ⟨bm,ob,h1,h2,h3,h4,h5,h6⟩:=bmT
   refine ⟨bm,ob,h1,h2,Mn h3 ?_,h4,h5,h6⟩
   cases c:H bm with
   |none=>rfl
   | some u=>
    rcases two bm (by rw [c];simp) with z|z
    ·subst z
     rw [ca] at h3
     cases h3
     cases h6
    ·subst z
     rw [eT] at h3
     cases h3
     cases h6
  refine codeAny_mono ((F _ kB (nsB glob) bmB).run callerA [] t H ⟨[.ref a],[]⟩ [.ref a] [.ref a] _ _ room e0 (bind t (.ref a)) (.cons rfl .nil) (want H only sq)) fun r z y=>?_
  cases r with
  |error e=>exact (fly H e z y).elim
  | ok fl=>
   cases fl with
   |next=>exact y.elim
   |brk=>exact y.elim
   |cont=>exact y.elim
   | ret u=>
    obtain ⟨v,H',os,bare,un,hok',rv,yes⟩:=y
    obtain rfl:v=.bl true:=yes
    obtain rfl:u=Value.bool true:=rv
    obtain ⟨more,em⟩:=un.tbls T #[] only.1
    have zT:z.heap.get? T=some (tabObj (#[]++more)):=hok' T _ em
    have kp:∀b o,b≠T→t.heap.get? b=some o→z.heap.get? b=some o:=fun b o n e=>by
     rcases only.2 b n with c|⟨ob,xs,c⟩
     ·exact un.keep b o e c (fun q=>absurd (show b∈([]:List Addr) from q) (by simp)) (by simp)
     ·obtain ⟨g1,_⟩:=hok b _ c
      obtain ⟨g2,_⟩:=hok' b _ (un.frzs b ob _ c)
      rw [e] at g1
      cases g1
      exact g2
    refine ⟨rfl,⟨fun b o e=>?_,fun b o e=>?_⟩,os,bare⟩
    ·by_cases n:b=T
     ·subst n
      rw [eT] at e
      cases e
      exact .inr (.inl ⟨(C.tab eT).isCodeTable,rfl,#[],more,rfl,zT⟩)
     ·exact .inl (kp b o n e)
    ·by_cases n:b=T
     ·exact ⟨_,n▸zT⟩
     ·exact ⟨o,kp b o n e⟩
 have rv:=Ob ia
 have ln:=ia.length
 cases hk:K.lookup a with
 | some o=>
  have e:=KX a o hk
  rw [ca] at e
  cases e
  refine core (upd (fun _=>none) T (.tbl #[])) ⟨Ad,fun b n=>.inl (Ak n)⟩ (.inr ⟨_,vs.toArray,_,hk,rfl,rfl,rfl,by rw [List.size_toArray,ln];exact short,by simpa using rv⟩) (fun b u z=>?_) (fun b z=>?_) fun z=>absurd (Ak aT) z
  ·by_cases n:b=T
   ·subst n
    rw [Ad] at z
    cases z
    exact eT
   ·rw [Ak n] at z
    cases z
  ·by_cases n:b=T
   ·exact .inr n
   ·exact absurd (Ak n) z
 | none=>
  refine core (upd (upd (fun _=>none) a (.frz { cls:=.type "list",data:=.seq vs.toArray } (.lst (ns.map V.int)))) T (.tbl #[])) ⟨Ad,fun b n=>?_⟩ (.inl (.inr ⟨{ cls:=.type "list",data:=.seq vs.toArray },?_⟩)) (fun b u z=>?_) (fun b z=>?_) fun _=>hk
  ·rw [Ak n]
   by_cases n2:b=a
   ·rw [n2,Ad]
    exact .inr ⟨_,_,rfl⟩
   ·exact .inl (Ak n2)
  ·rw [Ak aT,Ad]
  ·by_cases n:b=T
   ·subst n
    rw [Ad] at z
    cases z
    exact eT
   ·rw [Ak n] at z
    by_cases n2:b=a
    ·subst n2
     rw [Ad] at z
     cases z
     exact ⟨ca,by rw [List.length_map];exact short,vs,_,rv,ca⟩
    ·rw [Ak n2] at z
     cases z
  ·by_cases n:b=T
   ·exact .inr n
   ·by_cases n2:b=a
    ·exact .inl n2
    ·exact absurd ((Ak n).trans (Ak n2)) z
end Lw
end
section
set_option autoImplicit false
namespace Lw
open PySem PySem.Spec PyProof.Rows L2 PySem.W
def Sm (x:Str)(K:PySem.W.Frag)(ns:List Int):Sp:=fun vs H Q _=>match vs with
 |[.ref a]=>A0 K H a (ns.map V.int)∧ns.length≤63∧Xc ns∧H (O2 K x)=some (.tbl #[])∧∀H',Q (.bl true) H'
 |_=>False
def G6 (x:Str)(K:PySem.W.Frag):Sp:=fun vs H Q _=>∃(ns:List Int) (a:Addr),vs=[.ref a]∧A0 K H a (ns.map V.int)∧ns.length≤63∧Xc ns∧H (O2 K x)=some (.tbl #[])∧∀H',Q (.bl true) H'
section
variable {P:Program}{w:World}{K:PySem.W.Frag}{mg:Str→Option Value}{base:Heap}
theorem Aap {x:Str}{k:Nat}{st:Stmt}{f:Addr}{fd:FuncData}(F:Fun K "law" "law" st f fd)(hm:mg "law"=some (.ref f))(C:∀ns,Bf P w K mg base "law" ["_law_script"] k (Sm x K ns)):Gv P w K mg base (F9 P w) k f fd ["_law_script"] (G6 x K):=by
 refine ⟨fun vs H Q E h=>?_,fun A outer s H args us vs Q E hr he hb hv hs=>?_⟩
 ·obtain ⟨ns,a,rfl,_⟩:=h
  rfl
 ·obtain ⟨ns,a,rfl,h1,h2,h3,h4,h5⟩:=hs
  obtain ⟨f',fd',e1,e2,e3,G,oc',od',osl',lk'⟩:=(C ns).ex
  obtain ⟨oc,od,kV,doc,pm,an,cdv,ct,osl,_,lk,_⟩:=F.ex
  rw [hm] at e1
  cases e1
  rw [lk] at lk'
  cases lk'
  exact G.run A outer s H args us _ Q E hr he hb hv ⟨h1,h2,h3,h4,h5⟩
end
theorem walk_ofBT {l:PySem.W.OpenLaw}{n k:Nat}{q:Program}{loose:List Str}{XP:(Str→Option Value)→Heap→Prop}{YP:World→Heap→Prop}{d:DefRec}{K:Params→PySem.W.Frag}{CX:World→Xm}{sp:World→Sp}{x y:Str}{ts:List Addr}
  (hn:l.most=some n) (hn2:n≤sizeLine) (hdf:d.params.defaults=[]) (hr:Bu k callerA) (hY:∀(w:World) (h:Heap),YP w h→(K w.params).In h)
  (hT:∀(w:World) (h:Heap),YP w h→∀P∈ts,h.get? P=some (tabObj #[]))
  (F:∀(w:World) (mg:Str→Option Value) (fa:Addr) (h:Heap),(K w.params).In h→h.Ns mainGlobals mg→mg d.name=some (.ref fa)→(∃c P,PySem.W.tabIn (K w.params) y=some (c,P)∧codeHdIn (K w.params) c P=true∧(K w.params).lookup P=none∧P∈ts)∧∃fd:FuncData,(∀(s:Shared) (u:Value),BindsTo s fd ⟨[u],[]⟩ [(x,u)])∧∀base:Heap,(K w.params).In base→base.Ns mainGlobals mg→BmB mg base→Gv l.prog w (K w.params) mg base (CX w) k fa fd [x] (sp w))
  (hsp:∀(w:World) (H:Hp) (a:Addr) (ns:List Int),ns.length≤n→Xc ns→Yh (O2 (K w.params) y) H→A0 (K w.params) H a (ns.map V.int)→sp w [.ref a] H (fun v _=>v=.bl true) fun _ _ _=>False)
  (hCX:∀(w:World) (H:Hp) (s:Shared) (e:Value) (s':Shared),CX w [] H s (fun _ _ _=>False) e s'→False):PySem.W.WalkO q loose XP YP l.row.toRowW d [] (fun f vs=>PySem.call f vs):=by
 refine O0 hn hdf fun w t₀ t mg mb fa o pm cd doc a vs ns bits G Y x1 x2 x3 x5 y1 y2 y3 x6=>?_
 have KX:=hY w _ Y
 obtain ⟨⟨c,T,tb,hC,kT,mT⟩,fd,bd,ok⟩:=F w mg fa _ KX G.T.g x5
 have C:CodeHd t.heap c T:=codeHd_of_K KX hC
 have eT:=hT w _ Y T mT
 exact Wb KX G.T.g G.T.b G.T.builtins G.T.nolimit x6 y1 y2 (Nat.le_trans y3 hn2) hr C eT kT G.T.bmain ok bd (fun H only sq=>hsp w H a ns y3 bits (by rw [Vf tb];exact only) sq) fun H e z=>hCX w H t e z
end Lw
end
section
namespace Lw
open PySem PySem.Spec PyProof.Rows L2
section
variable {X:Cx}
end
end Lw
end
section
namespace Lw
open PySem PySem.Spec PyProof.Rows L2
theorem u1 {n m:Nat}(h:n+64<m):n+1<m:=by omega
structure TL (kvs:List (Bl×V))(ks:List Str)(f:Str→Int):Prop where
 key:kvs.map (·.1)=ks.map Sum.inr
 nd:ks.Nodup
 val:∀x,B1 kvs (Sum.inr x)=if x∈ks then some (.int (f x)) else none
 out:∀x,x∉ks→f x=0
theorem Jf {kvs:List (Bl×V)}{ks:List Str}(h:kvs.map (·.1)=ks.map Sum.inr)(x:Str)(v:V):(Cb kvs (Sum.inr x) v).map (·.1)=(dd ks x).map Sum.inr:=by
 have hany:(kvs.any fun kv=>decide (kv.1=Sum.inr x))=decide (x∈ks):=by
  have e:(kvs.any fun kv=>decide (kv.1=Sum.inr x))=(kvs.map (·.1)).any fun k=>decide (k=Sum.inr x):=by rw [List.any_map];rfl
  rw [e,h,List.any_map]
  by_cases hx:x∈ks
  ·rw [decide_eq_true hx,List.any_eq_true]
   exact ⟨x,hx,by simp⟩
  ·rw [decide_eq_false hx,List.any_eq_false]
   intro y hy c
   have:y=x:=by simpa using c
   exact hx (this▸hy)
 unfold Cb dd
 rw [hany]
 by_cases hx:x∈ks
 ·rw [decide_eq_true hx,if_pos rfl,if_pos hx,List.map_map,←h]
  refine List.map_congr_left fun kv _=>?_
  show (if kv.1=Sum.inr x then (kv.1,v) else kv).1=kv.1
  split<;>rfl
 ·rw [decide_eq_false hx,if_neg (by decide),if_neg hx,List.map_append,h,List.map_append]
  rfl
end Lw
end
section
namespace Lw
open PySem PySem.Spec PyProof.Rows L2
section
variable {prog:Program}{w:World}{A:Around}{E:Value→Shared→Prop}{s:Shared}
theorem Z1 {d:Addr}{vs:List (Bl×Value)}{ep:Nat}{Q:List Value→Shared→Prop}(hh:A.handled=none)(hok:s.heap.DictAt (A3 prog w) d vs ep)(lo:(d==sysModules)=false)(hn:vs.length≤sizeLine)
  (q:∀xs g tk,(∀b o,s.heap.get? b=some o→g.get? b=some o)→s.heap.objs.size<g.objs.size→xs.length=vs.length→(∀(j:Nat) v,xs[j]? =some v→∃k x,vs[j]? =some (k,x)∧(A3 prog w).is k v=true)→Q xs { s with heap:=g,toks:=tk }) :
  wpAny (model prog w) A (collect (.ref d)) Q E s:=by
 have la:d<s.heap.objs.size:=hok.lt_size
 unfold collect
 refine wpAny_bind (wpAny_runValue (codeAny_builtin PySem.F.entry_proto_collect ?_))
 rw [Around.under_plainId PySem.F.plain_proto_collect _]
 show wpAny _ A.in1 (newList [] >>= fun l=>again (.builtin "list.__iadd__" ⟨[l,.ref d],[]⟩)) _ _ s
 refine wpAny_bind (wpAny_newObj_type (wpAny_pure ⟨plainId_quiet PySem.F.plain_list_iadd _,codeAny_builtin PySem.F.entry_list_iadd ?_⟩))
 rw [Around.under_plainId PySem.F.plain_list_iadd _]
 show wpAny _ A.in1 (Builtin.List.listExtendWith (.ref s.heap.objs.size) (.ref d) (.ref s.heap.objs.size)) _ _ _
 have hS:(s.heap.push { cls:=.type "list",data:=.seq ([]:List Value).toArray }).get? s.heap.objs.size=some { cls:=.type "list",data:=.seq #[] 0 }:=Heap.get?_push_size _ rfl
 refine PySem.W.kdl_extend (R:=wants (fun v s'=>wpAny (model prog w) A (match v with|Value.ref a=>(do let o ←load a;match o.data with|.seq xs _=>pure xs.toList|_=>unsupported "internal:collect")|_=>unsupported "internal:collect") Q E s') E) (s:={ s with heap:=s.heap.push { cls:=.type "list",data:=.seq ([]:List Value).toArray } }) (PySem.W.kdl_dict lo) hh (hok.push _) s.heap.objs.size (Nat.ne_of_gt la) (Nat.ne_of_gt la) (.ref s.heap.objs.size) 0 hS (fun h' tk acc c hk hS' it=>?_) hn
 show wpAny _ A (load s.heap.objs.size >>= _) _ _ _
 refine wpAny_bind (wpAny_load hS' (wpAny_pure (q acc.toList h' tk (fun b o e=>hk b o (Nat.ne_of_lt (Heap.lt_size e)) (Heap.get?_push_of_some _ e)) (Heap.lt_size hS') (by rw [Array.length_toList];exact it.1) fun j v hv=>it.2 j v (by rw [←Array.getElem?_toList];exact hv))))
theorem Kl:∀{names:List Str} {us:List Value},us.length=names.length→(∀(j:Nat) v,us[j]? =some v→∃x t,names[j]? =some x∧v=Value.str x t)→StrsAre us names
 |[],[],_,_=>.nil
 |[],_::_,h,_=>by simp at h
 |_::_,[],h,_=>by simp at h
 |x::names,u::us,h,a=>by
  obtain ⟨y,t,e1,e2⟩:=a 0 u rfl
  simp at e1
  subst e1 e2
  refine .cons _ t (Kl (by simpa using h) fun j v hv=>?_)
  have:=a (j+1) v (by simpa using hv)
  simpa using this
end
section
variable {X:Cx}
def Aea:List V→Hp→VK→Prop:=fun xs H Q=>match xs with
 |[.ref d]=>∃(kvs:List (Bl×V)) (names:List Str),H d=some (.dK kvs)∧kvs.map (·.1)=names.map Sum.inr∧names.length<64∧names.Nodup∧∀D,H D=none→Q (.ref D) (upd H D (.lst ((Qq names).map V.str)))
 |_=>False
theorem Abc (hc:X.calm=true:=by rfl):B6 X (.builtin "sorted") Aea:=by
 intro pins s σ H xs us Q I r h
 match xs,h with
 | [.ref d],⟨kvs,names,e,hk,h64,nd,q⟩=>
  obtain ⟨u,rfl,ru⟩:=r.one
  cases (show u=Value.ref d from ru)
  obtain ⟨z,lo,vs,rel,dd⟩:=Uu I.hok e
  have kk:=rel.keys
  have kl:=rel.length
  obtain ⟨o,es,ep,r1⟩:=dd
  have at':s.heap.DictAt (A3 X.prog X.w) d vs ep:=⟨o,es,r1⟩
  have nl:kvs.length=names.length:=by
   have:=congrArg List.length hk
   simpa using this
  have hh:=I.ok.hd hc
  refine Calls.call_function_entry kind_sorted plain_sorted entry_sorted (args_sorted1 _) ?_
  unfold Builtin.«sorted»
  refine wpAny_bind (m:=checkCount "sorted" 1 1 _) (wpAny_pure (wpAny_bind (Z1 (by simp [hh]) at' lo (by omega) fun xs g tk keep lg hl hg=>?_)))
  have sa:StrsAre xs names:=Kl (by omega) fun j v hv=>by
   obtain ⟨k,x,h1,h2⟩:=hg j v hv
   have h3:(vs.map (·.1))[j]? =some k:=by rw [List.getElem?_map,h1];rfl
   rw [←kk,hk,List.getElem?_map] at h3
   cases hn:names[j]? with
   |none=>
    rw [hn] at h3
    cases h3
   | some y=>
    rw [hn] at h3
    cases h3
    rcases Bc (show K1 (Sum.inr y) v=true from h2) with ⟨i,t,e1,_⟩|⟨y',t,e1,e2⟩
    ·cases e1
    ·cases e1
     exact ⟨y,t,rfl,e2⟩
  refine wpAny_bind (wpAny_newList ?_ (by omega))
  have hoL:(g.push (seqObj "list" xs.toArray 0)).get? g.objs.size=some (seqObj "list" xs.toArray 0):=Heap.get?_push_size _ rfl
  refine wpAny_bind (wpAny_holding (wpAny_call_entry slot_list_sort ⟨_,hoL,rfl⟩ entry_list_sort (list_sort_treeK strKind_oneLt hoL sa.keysOf (fun v1 v2 r e=>keyKind_strs (by rw [←e];exact sa)) (by omega) fun st' a1 a2=>⟨_,rfl,wpAny_pure ⟨_,rfl,?_⟩⟩) (args_list_sort _)))
  obtain ⟨ys,b1,b2,b3⟩:=sorted_out_str sa a1 a2
  obtain ⟨n,hn⟩:=sortedHeap_at (out:=(arrOf st').map (·.2)) hoL
  have ey:ys=Qq names:=Ix (Jg (Oe b3) (b2.nodup_iff.mpr nd)) (Ch _) fun x=>by rw [b2.mem_iff,Dx]
  subst ey
  have keep2:∀b ob,s.heap.get? b=some ob→(sortedHeap (g.push (seqObj "list" xs.toArray 0)) g.objs.size xs ((arrOf st').map (·.2))).get? b=some ob:=fun b ob e=>by
   have hb:=Heap.lt_size (keep b ob e)
   rw [sortedHeap_old (Nat.ne_of_lt hb) (by rw [Heap.size_push];exact Nat.lt_succ_of_lt hb)]
   exact Heap.get?_push_of_some _ (keep b ob e)
  have I2:=I.laid (t':=tk) (h':=sortedHeap (g.push (seqObj "list" xs.toArray 0)) g.objs.size xs ((arrOf st').map (·.2))) (a:=g.objs.size) (o:=.lst ((Qq names).map V.str)) keep2 (Nat.le_of_lt lg) ⟨by rw [List.length_map,b2.length_eq];omega,((arrOf st').map (·.2)).toList,n,Mh b1,by rw [hn]⟩
  exact ⟨.ref g.objs.size,_,I2,rfl,q _ (I.hok.fresh (Nat.le_of_lt lg))⟩
end
inductive Rch (gs:List Gm)(n:Str):Str→Prop where
 |here:Rch gs n n
 |step {x y:Str}:Rch gs n x→y∈tkr x gs→Rch gs n y
end Lw
end
namespace PySem
open Sem (wp)
namespace F
end F
theorem Pz:typeLookup (.type "list") "keys"=pure none:=by rw [typeLookup_type,builtinLookup_eq_fast];kernel_rfl
theorem Jd {prog:Program}{w:World}{A:Around}{E:Value→Shared→Prop}{s:Shared}{a:Addr}{o:Obj}{xs:Array Value}{k:Nat}{Q:Option Value→Shared→Prop}
  (hx:s.heap.get? a=some o) (hc:o.cls=.type "list") (hdat:o.data=.seq xs k) (hd:o.dict=none) (hA:A.handled=none)
  (h:∀h' tk,(∀b o,s.heap.get? b=some o→h'.get? b=some o)→Q none { s with heap:=h',toks:=tk }) :
  wpAny (model prog w) A (getAttr? (.ref a) "keys") Q E s:=by
 obtain ⟨c,dct,dat,sl⟩:=o
 simp only at hc hdat hd
 subst hc hdat hd
 obtain ⟨hp,g,d,tk,os⟩:=s
 have hT:∀tk',(⟨hp,g,d,tk',os⟩:Shared).TypeIs (.ref a) "list":=fun _=>⟨_,hx,rfl⟩
 have f1:=sub_AttributeError
 have f3:=F.slot_list_getattribute.lookup
 have f4:=F.slot_list_getattribute.bind (.ref a)
 have f5:=am_list_getattr_none
 unfold getAttr? getAttrBy? getAttrBy
 repeat (any_goals (first|assumption|exact hT _|((with_reducible show wpAny _ _ (call (Value.builtin "list.__getattribute__") _ _) _ _ _);refine call_meets F.slot_list_getattribute (hT _) am_entry_list_getattribute (F.args_list_getattribute_2 _ _) (meets_getattribute_miss_list a xs k sl "keys" _ Pz (by decide +kernel) (by size_fits)) ⟨hx,hA,fun h' tk' e hx'=>?_⟩)|wp_step))
 obtain ⟨t',u',he⟩:=hx'.there
 show wpAny _ _ (getattributeRaised _ _ _ _ _ _ _) _ _ _
 unfold getattributeRaised
 repeat (any_goals (first|assumption|wp_step))
 exact h _ _ hx'.keeps
end PySem
section
namespace Lw
open PySem PySem.Spec PyProof.Rows L2
abbrev Akq (h:Heap)(z TI TO a:Addr)(b:Bool):Prop:=
 h.get? z=some { cls:=.type "zip",data:=.fields #[rawInt a,.bool b,.bool false,.ref TI,.ref TO] }
section
variable {prog:Program}{w:World}{A:Around}{E:Value→Shared→Prop}{s:Shared}
theorem R4:entryFor table "dict.update.loop"=some Builtin.«dict.update.loop»:=entryFor_of_tree (by kernel_rfl)
section
variable {K:Type}[DecidableEq K]{knd:KeyKind prog w K}
structure Dz (knd:KeyKind prog w K)(k1 k2:Bool)(z TI TO i1 i2 l1 l2 D:Addr)(xs ys:Array Value)(kvs:List (K×Value))(h0:Heap)(i:Nat)(h:Heap):Prop where
 dd:h.DictOf knd D (kvs.take i)
 ia:Rq k1 h i1 l1 i
 ib:Rq k2 h i2 l2 i
 sx:Nl k1 h l1 xs
 sy:Nl k2 h l2 ys
 ti:IsPair h TI (.ref i1) (.ref i2)
 zz:(i=0∧IsZip h z TI TO .none∧∃u v,IsPair h TO u v)∨∃p q oa,Akq h z TI TO p q∧h.get? p=some oa∧p≠z∧p≠i1∧p≠i2∧p≠D
 old:∀c o,c≠z→c≠TO→c≠i1→c≠i2→c≠D→h0.get? c=some o→h.get? c=some o
theorem Sv {kvs:List (K×Value)}{i:Nat}{k:K}{v:Value}(hn:(kvs.map (·.1)).Nodup)(e:kvs[i]? =some (k,v)):stored (kvs.take i) k v=kvs.take (i+1):=by
 have hlt:i<kvs.length:=(List.getElem?_eq_some_iff.mp e).1
 have hno:(kvs.take i).any (fun kv=>kv.1=k)=false:=by
  rw [Bool.eq_false_iff]
  intro ha
  obtain ⟨kv,hm,hk⟩:=List.any_eq_true.mp ha
  obtain ⟨j,hj⟩:=List.mem_iff_getElem?.mp hm
  have hji:j<i:=by
   have:=(List.getElem?_eq_some_iff.mp hj).1
   rw [List.length_take] at this
   omega
  rw [List.getElem?_take_of_lt hji] at hj
  have e1:(kvs.map (·.1))[j]? =some k:=by rw [List.getElem?_map,hj];exact congrArg some (by simpa using hk)
  have e2:(kvs.map (·.1))[i]? =some k:=by rw [List.getElem?_map,e];rfl
  obtain ⟨b1,c1⟩:=List.getElem?_eq_some_iff.mp e1
  obtain ⟨b2,c2⟩:=List.getElem?_eq_some_iff.mp e2
  exact (List.pairwise_iff_getElem.mp hn) j i b1 b2 hji (c1.trans c2.symm)
 unfold stored
 rw [hno,List.take_add_one,e]
 rfl
end
end
section
variable {X:Cx}
end
end Lw
end
section
namespace Lw
open PySem PySem.Spec PyProof.Rows L2
section
variable {prog:Program}{w:World}{A:Around}{E:Value→Shared→Prop}{s:Shared}
variable {K:Type}[DecidableEq K]{knd:KeyKind prog w K}
theorem Ack {p:Addr}{x y:Value}{Q:List Value→Shared→Prop}(h:IsTup s.heap p #[x,y])(q:Q [x,y] s):wpAny (model prog w) A (Builtin.Dict.pairItems (.ref p)) Q E s:=by
 obtain ⟨o,e,c,n,d⟩:=h
 unfold Builtin.Dict.pairItems
 refine wpAny_bind (wpAny_typeOf (T:="tuple") ⟨_,e,c⟩ ?_)
 rw [if_pos (by decide)]
 exact wpAny_bind (wpAny_seqItems e d (wpAny_pure q))
structure Dp (knd:KeyKind prog w K)(I l D:Addr)(xs:Array Value)(kvs:List (K×Value))(h0:Heap)(i:Nat)(h:Heap):Prop where
 dd:h.DictOf knd D (kvs.take i)
 st:h.IsListIter I l i∧h.IsList l xs
 old:∀c o,c≠I→c≠D→h0.get? c=some o→h.get? c=some o
theorem U1 {I l D:Addr}{xs:Array Value}{kvs:List (K×Value)}{h0:Heap}{R:Result→Shared→Prop}(hh:A.handled=none)(lI:l≠I)(lD:l≠D)(ID:I≠D)
  (hn:(kvs.map (·.1)).Nodup) (hz:kvs.length≤sizeLine) (hl:xs.size=kvs.length)
  (hp:∀(i:Nat) (k:K) (v:Value),kvs[i]? =some (k,v)→∃p x,xs[i]? =some (.ref p)∧p≠I∧p≠D∧knd.is k x=true∧IsTup h0 p #[x,v]):∀(n i:Nat) (s:Shared),i+n=kvs.length→Dp knd I l D xs kvs h0 i s.heap →
  (∀h' tk,h'.DictOf knd D kvs→(∀c o,c≠I→c≠D→h0.get? c=some o→h'.get? c=some o)→R (.ok (.ret .none)) { s with heap:=h',toks:=tk }) →
  codeAny (model prog w) A (.builtin "dict.update.loop" ⟨[.ref D,.ref I,rawInt i,.none],[]⟩) R s
 |0,i,s,hi,S,fin=>by
  refine codeAny_builtin R4 ?_
  have hi:i=kvs.length:=by omega
  subst hi
  have W:=Walks.list (prog:=prog) (w:=w) (A:=A.in1) hh I l lI xs
  have dd:s.heap.DictOf knd D kvs:=by have:=S.dd;rwa [List.take_length] at this
  unfold Builtin.«dict.update.loop»
  refine wpAny_bind (W.done s _ _ (by rw [hl];exact S.st) fun g tk k=>?_)
  refine wpAny_bind (wpAny_pure (wpAny_pure (fin g tk ?_ fun c o n1 n2 e=>k c o (fun m=>n1 (List.mem_singleton.mp m)) (S.old c o n1 n2 e))))
  obtain ⟨o,es,ep,ho,r⟩:=dd
  exact ⟨o,es,ep,k _ _ (fun m=>ID (List.mem_singleton.mp m).symm) ho,r⟩
 | n+1,i,s,hi,S,fin=>by
  refine codeAny_builtin R4 ?_
  obtain ⟨⟨k,v⟩,ek⟩:∃kv,kvs[i]? =some kv:=⟨kvs[i]'(by omega),List.getElem?_eq_getElem (by omega)⟩
  obtain ⟨p,x,ex,pI,pD,hk,hpr⟩:=hp i k v ek
  have W:=Walks.list (prog:=prog) (w:=w) (A:=A.in1) hh I l lI xs
  unfold Builtin.«dict.update.loop»
  refine wpAny_bind (W.item i s _ _ (by omega) S.st fun v' g tk hv st' kp=>?_)
  rw [ex] at hv
  cases hv
  have kp':∀c o,c≠I→s.heap.get? c=some o→g.get? c=some o:=fun c o n e=>kp c o (fun m=>n (List.mem_singleton.mp m)) e
  have gp:IsTup g p #[x,v]:=by
   obtain ⟨o,ho,r⟩:=hpr
   exact ⟨o,kp' _ _ pI (S.old _ _ pI pD ho),r⟩
  have gd:g.DictOf knd D (kvs.take i):=by
   obtain ⟨o,es,ep,ho,r⟩:=S.dd
   exact ⟨o,es,ep,kp' _ _ (Ne.symm ID) ho,r⟩
  refine wpAny_bind (wpAny_holding (wpAny_bind (wpAny_tryCatch (Ack gp ?_))))
  refine wpAny_holding (wpAny_dictSet_pairs hk gd (fun g' gd' sb=>?_) (by rw [List.length_take];omega))
  rw [Sv hn ek] at gd'
  refine wpAny_pure ⟨Code.quiet_builtin _ (by decide +kernel),?_⟩
  refine U1 hh lI lD ID hn hz hl hp n (i+1) _ (by omega) ⟨gd',?_,fun c o n1 n2 e=>sb.extBut _ _ n2 (kp' _ _ n1 (S.old c o n1 n2 e))⟩ fin
  exact W.frame _ _ _ st' fun b hb o e=>sb.extBut _ _ (fun c=>by
   rcases List.mem_cons.mp hb with e'|hb
   ·exact ID (e'.symm.trans c)
   ·exact lD ((List.mem_singleton.mp hb).symm.trans c)) e
theorem Acq {l:Addr}{xs:Array Value}{kvs:List (K×Value)}{Q:Value→Shared→Prop}(hh:A.handled=none)(hl:s.heap.IsList l xs)(hd0:∃o n,s.heap.get? l=some o∧o.cls=.type "list"∧o.data=.seq xs n∧o.dict=none)
  (hn:(kvs.map (·.1)).Nodup) (hz:kvs.length≤sizeLine) (hs:xs.size=kvs.length)
  (hp:∀(i:Nat) (k:K) (v:Value),kvs[i]? =some (k,v)→∃p x,xs[i]? =some (.ref p)∧knd.is k x=true∧IsTup s.heap p #[x,v])
  (fin:∀h' tk,Heap.DictOf knd h' s.heap.objs.size kvs→(∀c o,s.heap.get? c=some o→h'.get? c=some o)→Q (.ref s.heap.objs.size) { s with heap:=h',toks:=tk }) :
  wpAny (model prog w) A (call (.type "dict") [.ref l]) Q E s:=by
 refine callType_codes (Q₁:=fun obj s₁=>obj=.ref s.heap.objs.size∧s₁={ s with heap:=s.heap.push { cls:=.type "dict",data:=.dict #[] } }) F.kt_called_dict (F.kt_typeCall_dict_1 _) F.entry_dict_init (kt_code_dict_new _ ⟨rfl,rfl⟩) ?_
 rintro obj s₁ ⟨rfl,rfl⟩
 have hnew:(s.heap.push { cls:=.type "dict",data:=.dict #[] }).DictOf knd s.heap.objs.size []:=Heap.DictOf.new s.heap
 refine ⟨hnew.typeIs,F.args_dict_init_2 _ _,?_⟩
 unfold Builtin.«dict.__init__»
 refine wpAny_bind ?_
 unfold Builtin.Dict.selfAndRest
 refine wpAny_bind (wpAny_notOrdered_dict hnew.typeIs ?_)
 show wpAny _ _ (pure (s.heap.objs.size,[Value.ref l])) _ _ _
 refine wpAny_pure ?_
 show wpAny _ _ (Builtin.Dict.updateFrom "dict.__init__" s.heap.objs.size (.ref l) [] .none) _ _ _
 unfold Builtin.Dict.updateFrom
 obtain ⟨ol,nl,el,cl,dl,dcl⟩:=hd0
 have el1:=Heap.get?_push_of_some { cls:=.type "dict",data:=.dict #[] } el
 refine wpAny_bind (wpAny_typeOf (T:="list") ⟨_,el1,cl⟩ ?_)
 rw [if_pos (by decide)]
 refine wpAny_bind (Jd el1 cl dl dcl hh fun h1 tk1 kp=>?_)
 simp only [Option.isNone_none,if_true]
 refine wpAny_bind (wpAny_rule ?_)
 have hl1:h1.IsList l xs:=⟨ol,kp _ _ el1,cl,nl,dl⟩
 refine wpAny_bind (wpAny_pyIter_list hl1 ?_)
 refine wpAny_pure ⟨Code.quiet_builtin _ (by decide +kernel),?_⟩
 have lt:@LT.lt Nat _ l s.heap.objs.size:=Heap.lt_size el
 have ltD:@LT.lt Nat _ s.heap.objs.size h1.objs.size:=by
  obtain ⟨o,es,ep,ho,r⟩:=hnew
  exact Heap.lt_size (kp _ _ ho)
 have old:∀c o,s.heap.get? c=some o→h1.get? c=some o:=fun c o e=>kp c o (Heap.get?_push_of_some _ e)
 dsimp only
 refine U1 (knd:=knd) (A:=A.in1) (h0:=h1) hh (show @Ne Nat _ _ by omega) (show @Ne Nat _ _ by omega) (show @Ne Nat _ _ by omega) hn hz hs (fun i k v e=>?_) kvs.length 0 _ (by omega) ⟨?_,⟨⟨_,Heap.get?_push_size _ rfl,rfl,rfl⟩,hl1.push _⟩,fun c o n1 n2 e=>Heap.get?_push_of_some _ e⟩ fun h' tk dd k=>?_
 ·obtain ⟨p,x,e1,e2,e3⟩:=hp i k v e
  obtain ⟨op,ep,rp⟩:=e3
  have lp:@LT.lt Nat _ p s.heap.objs.size:=Heap.lt_size ep
  exact ⟨p,x,e1,show @Ne Nat _ _ by omega,show @Ne Nat _ _ by omega,e2,op,old _ _ ep,rp⟩
 ·obtain ⟨o,es,ep,ho,r⟩:=hnew
  exact ⟨o,es,ep,Heap.get?_push_of_some _ (kp _ _ ho),r⟩
 ·refine ⟨rfl,fin h' tk dd fun c o e=>?_⟩
  have lc:@LT.lt Nat _ c s.heap.objs.size:=Heap.lt_size e
  exact k c o (show @Ne Nat _ _ by omega) (show @Ne Nat _ _ by omega) (old c o e)
end
section
variable {X:Cx}
def Aee (K:PySem.W.Frag):List V→Hp→VK→Prop:=fun vs H Q=>match vs with
 |[.ref a]=>∃(xs:List V) (kvs:List (Bl×V)),A0 K H a xs∧Paired (fun v (kv:Bl×V)=>∃p,v=V.ref p∧H p=some (.tup [kV kv.1,kv.2])) xs kvs∧(kvs.map (·.1)).Nodup∧kvs.length≤1000∧∀D,H D=none→Q (.ref D) (upd H D (.dK kvs))
 |_=>False
theorem Vu {pins:List (Addr×Obj)}{σ:L2.St}{H:Hp}{s:Shared}(I:Ap X pins σ H s):∀{xs:List V} {kvs:List (Bl×V)} {us:List Value},Az xs us→Paired (fun v (kv:Bl×V)=>∃p,v=V.ref p∧H p=some (.tup [kV kv.1,kv.2])) xs kvs →
  ∃ws:List (Bl×Value),KV kvs ws∧∀(i:Nat) (k:Bl) (v:Value),ws[i]? =some (k,v)→∃p x,us[i]? =some (.ref p)∧(A3 X.prog X.w).is k x=true∧IsTup s.heap p #[x,v]
 |_,_,_,.nil,.nil=>⟨[],.nil,fun i k v e=>by simp at e⟩
 | _,_,_,.cons r t,.cons ⟨p,e,h⟩ t'=>by
  subst e
  cases r
  obtain ⟨ws,h1,h2⟩:=Vu I t t'
  obtain ⟨its,rv,pl,_⟩:=I.tuple (Ed.of h)
  cases rv with
  |cons ra rb=>
  cases rb with
  |cons rc rd=>
  cases rd
  rename_i x0 v0
  refine ⟨(_,v0)::ws,.cons ⟨rfl,rc⟩ h1,fun i k v e=>?_⟩
  cases i with
  |zero=>
   cases e
   exact ⟨p,x0,rfl,Ky ra,pl⟩
  |succ i=>exact h2 i k v (by simpa using e)
theorem Aba (hcalm:X.calm=true):B6 X (.type "dict") (Aee X.K):=by
 intro pins s σ H xs us Q I r h
 match xs,h with
 | [.ref a],⟨xs,kvs,hx,hp,hn,hz,q⟩=>
  obtain ⟨u,rfl,r1⟩:=Jh r
  cases (show u=Value.ref a from r1)
  obtain ⟨its,rv,pl,_⟩:=I.list hx
  obtain ⟨ws,rel,hw⟩:=Vu I rv hp
  have l1:=rv.length
  have l2:=rel.length
  have l3:=Paired.length hp
  obtain ⟨o,n,e,c,d,dn⟩:=pl
  have kw:ws.map (·.1)=kvs.map (·.1):=by
   have:∀{a:List (Bl×V)} {b:List (Bl×Value)},KV a b→b.map (·.1)=a.map (·.1):=fun {a b} h=>by
    induction h with
    |nil=>rfl
    |cons h t ih=>
     rw [List.map_cons,List.map_cons,ih,h.1]
   exact this rel
  refine Acq (knd:=A3 X.prog X.w) (kvs:=ws) (I.ok.hd hcalm) ⟨o,e,c,n,dn⟩ ⟨o,n,e,c,dn,d⟩ (by rw [kw];exact hn) (by rw [←l2];exact Nat.le_trans hz (by decide)) (by simp only [List.size_toArray];omega) (fun i k v hi=>?_) fun h' tk dd kp=>?_
  ·obtain ⟨p,x,h1,h2,h3⟩:=hw i k v hi
   exact ⟨p,x,by simpa using h1,h2,h3⟩
  ·have hD:H s.heap.objs.size=none:=I.hok.fresh (Nat.le_refl _)
   refine ⟨.ref s.heap.objs.size,_,I.laid (a:=s.heap.objs.size) (o:=.dK kvs) (t':=tk) kp (Nat.le_refl _) (Tr (Nat.le_trans hz (by decide)) ?_ rel dd),rfl,q _ hD⟩
   have:@LT.lt Nat _ sysModules s.heap.objs.size:=I.big
   exact beq_eq_false_iff_ne.mpr (show @Ne Nat _ _ by omega)
end
end Lw
end
section
namespace Lw
open PySem PySem.Spec PyProof.Rows L2
section
variable {X:Cx}
theorem Ab6 {pins:List (Addr×Obj)}{σ:L2.St}{H:Hp}{s:Shared}{a:Addr}{kvs:List (Bl×V)}{o:Obj}(I:Ap X pins σ H s)(ha:H a=some (.dK kvs))(ho:s.heap.get? a=some o):Ap X pins σ (upd H a (.frz o (.dK kvs))) s:=by
 have old:∀b u,H b=some u→b≠a→upd H a (.frz o (.dK kvs)) b=some u:=fun b u e n=>by rw [Ak n];exact e
 refine I.step (g':=s.gens) (d':=s.drawn) (t':=s.toks) (h':=s.heap) (ch:=[]) (fun _ z=>nomatch z) (fun b o _ _ _ e _=>e) (fun b o _ _ _ e _=>⟨o.slots,e⟩) (fun b u _ e n=>?_) (fun b o _ e=>⟨o,e⟩) (fun b xs e=>old b _ e ?_) (fun b ob u e=>old b _ e ?_)
  (fun b ps e=>⟨#[],by rw [old b _ e (fun z=>by rw [z,ha] at e;cases e)];simp⟩) (fun m hm=>hm) (fun b u e=>?_) I.bare
 ·rw [Ak (fun z=>by rw [z,ha] at n;cases n)]
  exact n
 ·intro z
  rw [z,ha] at e
  cases e
 ·intro z
  rw [z,ha] at e
  cases e
 ·have ho':∀b c,H b=some (.own c)→upd H a (.frz o (.dK kvs)) b=some (.own c):=fun b c e=>old b _ e fun z=>by rw [z,ha] at e;cases e
  have ht':∀b xs,H b=some (.tup xs)→upd H a (.frz o (.dK kvs)) b=some (.tup xs):=fun b xs e=>old b _ e fun z=>by rw [z,ha] at e;cases e
  by_cases hb:b=a
  ·subst hb
   rw [Ad] at e
   cases e
   exact ⟨ho,(I.hok b _ ha).stay (fun c v _ q=>q) (fun c q=>ho' c _ q) ht'⟩
  ·rw [Ak hb] at e
   exact (I.hok b u e).stay (fun c v _ q=>q) (fun c q=>ho' c _ q) ht'
end
end Lw
end
section
namespace Lw
open PySem PySem.Spec PyProof.Rows L2
theorem Aa9 {kvs:List (Bl×V)}{vs:List (Bl×Value)}(r:KV kvs vs):Az (kvs.map (·.2)) (vs.map (·.2)):=by
 unfold KV at r
 induction r with
 |nil=>exact .nil
 |cons h _ ih=>exact .cons h.2 ih
def Ad8 (td:TE):TE:=fun σ H Q=>td σ H fun x H1=>∃(d:Addr) (kvs:List (Bl×V)),x=.ref d∧Rd H1 d (.dK kvs)∧∀D H',Ai H1 H'→H1 D=none→H' D=some (.lst (kvs.map (·.2)))→Q (.ref D) H'
section
variable {X:Cx}
theorem Sg {o:Expr}{td:TE}{p apos cpos pos:Pos}(hg:Gl X "list")(hm:X.mg "list"=none)(ho:PE X o td)(hcalm:X.calm=true)
  (hbase:attributeBase o "values" X.env (eval o X.env)=eval o X.env:=by rfl) (hline:(apos.endLine==cpos.line)=true:=by rfl) :
  PE X (.Call (.Name "list" p) [.Call (.Attribute o "values" apos) [] [] cpos] [] pos) (Ad8 td):=by
 intro pins s σ H Q I h
 refine Call_ (Fr I hg hm PyProof.Rows.boot_list (PyProof.Rows.callWith_type1 ?_))
 refine Calls.spliced_cons ?_
 refine wpAny_Call_method0_late hbase hline (Ba (ho pins s σ H _ I h) fun u s1 ⟨x,H1,I1,rx,d,kvs,ex,hd,q⟩=>?_)
 subst ex
 obtain rfl:u=Value.ref d:=rx
 obtain ⟨t1,t2,lo⟩:=Ti I1 (.inl ⟨kvs,hd⟩)
 obtain ⟨z,_,vs,rel,dd⟩:=Jb I1.hok hd
 refine ⟨"dict","dict.values",PySem.F.plainAttrs_dict,PySem.F.slot_dict_values,PySem.F.type_dict_values,t1,t2,Calls.callWith_builtin rfl (PySem.evalArgs_none ?_)⟩
 refine call_meetsIn PySem.F.slot_dict_values t1 PySem.F.entry_dict_values (PySem.F.args_dict_values_1 _) (meets_dict_values (A3 X.prog X.w) d lo) ⟨⟨vs,dd⟩,Calls.spliced_nil ?_⟩
 obtain ⟨o',es,ep,r1⟩:=dd
 have at':s1.heap.DictAt (A3 X.prog X.w) d vs ep:=⟨o',es,r1⟩
 have kl:=rel.length
 have sz:(s1.heap.push { cls:=.type "dict_values",data:=.fields #[.ref d] }).objs.size=s1.heap.objs.size+1:=size_push' _ _
 refine PySem.W.kdl_call (s:={ s1 with heap:=s1.heap.push { cls:=.type "dict_values",data:=.fields #[.ref d] } }) (PySem.W.kdl_values (knd:=A3 X.prog X.w) (kvs:=vs) (ep:=ep) (r:=s1.heap.objs.size) (d:=d)) (I1.ok.hd hcalm) ⟨⟨_,Heap.get?_push_size _ rfl,rfl,rfl⟩,at'.push _⟩ (by omega) fun h' tk acc c keep hS it=>?_
 have ea:acc.toList=vs.map (·.2):=PySem.W.kdl_vals_eq acc.toList (by rw [Array.length_toList];exact it.1) fun j v hv=>it.2 j v (by rw [←Array.getElem?_toList];exact hv)
 have hD:H1 (s1.heap.objs.size+1)=none:=I1.hok.fresh (Nat.le_succ _)
 rw [sz] at hS ⊢
 refine ⟨.ref (s1.heap.objs.size+1),_,I1.laid (a:=s1.heap.objs.size+1) (o:=.lst (kvs.map (·.2))) (t':=tk) (fun b ob eb=>keep b ob (Heap.get?_push_of_some _ eb)) (Nat.le_succ _) (show A4 X.prog X.w _ h' _ (.lst (kvs.map (·.2))) from ⟨by rw [List.length_map];exact z,vs.map (·.2),c,Aa9 rel,?_⟩),rfl,q _ _ (Al hD) hD Ad⟩
 rw [hS,←ea]
theorem Zr {pins:List (Addr×Obj)}{σ:L2.St}{H:Hp}{s:Shared}{a:Addr}{kvs:List (Bl×V)}{o:Obj}(I:Ap X pins σ H s)(ha:H a=some (.frz o (.dK kvs)))(h0:∀o u,X.H₀ a≠some (.frz o u)):Ap X pins σ (upd H a (.dK kvs)) s:=by
 have ne:∀{b:Addr},H b=none→b≠a:=fun e z=>by rw [z,ha] at e;cases e
 have old:∀b u,H b=some u→b≠a→upd H a (.dK kvs) b=some u:=fun b u e n=>by rw [Ak n];exact e
 have nn:∀{b:Addr},H b=none→upd H a (.dK kvs) b=none:=fun e=>by rw [Ak (ne e)];exact e
 refine { ok:=I.ok,os:=I.os,bare:=I.bare,base:=?_,loc:=I.loc,cell:=I.cell,free:=nn I.free,freeC:=fun x c e=>nn (I.freeC x c e),pin:=fun p hp=>?_,hok:=fun b u e=>?_,len:=I.len }
 ·refine { keep:=I.base.keep,slot:=I.base.slot,free:=fun b o e n x=>nn (I.base.free b o e n x),there:=I.base.there,tups:=fun b xs e=>old b _ (I.base.tups b xs e) fun z=>?_,frzs:=fun b o u e=>old b _ (I.base.frzs b o u e) fun z=>?_,tbls:=fun b ps e=>?_ }
  ·have:=I.base.tups b xs e
   rw [z,ha] at this
   cases this
  ·exact h0 o u (z▸e)
  ·obtain ⟨more,e'⟩:=I.base.tbls b ps e
   exact ⟨more,old b _ e' fun z=>by rw [z,ha] at e';cases e'⟩
 ·obtain ⟨p1,p2,p3⟩:=I.pin p hp
  exact ⟨p1,nn p2,p3⟩
 ·have ho':∀b c,H b=some (.own c)→upd H a (.dK kvs) b=some (.own c):=fun b c e=>old b _ e fun z=>by rw [z,ha] at e;cases e
  have ht':∀b xs,H b=some (.tup xs)→upd H a (.dK kvs) b=some (.tup xs):=fun b xs e=>old b _ e fun z=>by rw [z,ha] at e;cases e
  by_cases hb:b=a
  ·subst hb
   rw [Ad] at e
   cases e
   have:=(show A4 X.prog X.w H s.heap b (.frz o (.dK kvs)) from I.hok b _ ha)
   exact (show A4 X.prog X.w H s.heap b (.dK kvs) from this.2).stay (fun c v _ q=>q) (fun c q=>ho' c _ q) ht'
  ·rw [Ak hb] at e
   exact (I.hok b u e).stay (fun c v _ q=>q) (fun c q=>ho' c _ q) ht'
def Ah8 (H0:Hp)(te:TE):TE:=fun σ H Q=>te σ H fun v H'=>∃a o kvs,H' a=some (.frz o (.dK kvs))∧(∀o u,H0 a≠some (.frz o u))∧Q v (upd H' a (.dK kvs))
theorem Aa7 {e:Expr}{te:TE}(he:PE X e te):PE X e (Ah8 X.H₀ te):=by
 intro pins s σ H Q I h
 refine Ba (he pins s σ H _ I h) fun v s1 ⟨x,H1,I1,rx,a,o,kvs,ea,h0,q⟩=>?_
 exact ⟨x,_,Zr I1 ea h0,rx,q⟩
def Afr (a:Addr)(o:Obj)(ks:List Bl):It:=
 ⟨fun i H=>(∃kvs,H a=some (.frz o (.dK kvs))∧kvs.map (·.1)=ks)∧i<ks.length,
  fun i H v H'=>H'=H∧∃x,ks[i]? =some x∧v=kV x,
  fun i H=>(∃kvs,H a=some (.frz o (.dK kvs))∧kvs.map (·.1)=ks)∧ks.length≤i⟩
theorem T9 {P:Program}{w:World}{K:PySem.W.Frag}{tg:Expr}{it a:Addr}{o:Obj}{names:List Bl}{es:Array DictEntry}{ep:Nat}(ho:o.data=.dict es ep) :
  W7 P w K tg (Afr a o names) [it] it (fun i h=>h.IsKeyIter it a i names.length ep) where
 mem:=by simp
 obj:=fun i h Z c hc=>by
  have hc:c=it:=by simpa using hc
  subst hc
  obtain ⟨o,e,_,d⟩:=Z
  exact ⟨o,e,fun v z=>by rw [d] at z;cases z⟩
 keep:=fun i h h' Z k=>by
  obtain ⟨o,e,r⟩:=Z
  exact ⟨o,k it (by simp) o e,r⟩
 item:=by
  intro X hP hw hK hc i pins s σ H E I hf Z hg
  subst hP hw hK
  obtain ⟨⟨kvs,e,hk⟩,hi⟩:=hg
  obtain ⟨e0,z,lo,vs,rel,dd⟩:=(show A4 X.prog X.w H s.heap a (.frz o (.dK kvs)) from I.hok a _ e)
  have kk:=rel.keys
  have kl:=rel.length
  have nl:kvs.length=names.length:=by
   have:=congrArg List.length hk
   simpa using this
  obtain ⟨o',es',ep',r0,r1,r2,r3⟩:=dd
  rw [e0] at r0
  cases r0
  rw [ho] at r2
  cases r2
  have at':s.heap.DictAt (A3 X.prog X.w) a vs ep:=⟨o,es,e0,r1,ho,r3⟩
  have vl:vs.length=names.length:=by omega
  have hx:vs[i]? =some (vs[i]'(by omega)):=List.getElem?_eq_getElem (by omega)
  generalize vs[i]'(by omega)=kv at hx
  obtain ⟨k,u⟩:=kv
  have h3:(vs.map (·.1))[i]? =some k:=by rw [List.getElem?_map,hx];rfl
  rw [←kk,hk] at h3
  have hn:names[i]? =some names[i]:=List.getElem?_eq_getElem hi
  have hkn:k=names[i]:=by
   rw [hn] at h3
   exact (Option.some.inj h3).symm
  have Z:s.heap.IsKeyIter it a i vs.length ep:=by rw [vl];exact Z
  refine wpAny_pyNext_dict_item Z at' hx fun key g hkey hit sb=>⟨_,rfl,?_⟩
  refine letGo_keyiter (s':={ s with heap:=g }) hit ?_
  have I1:Ap X pins σ H { s with heap:=g }:=J2 I (t':=s.toks) (fp:=[it]) (fun c o hc e=>sb.extBut c o (fun x=>hc (by simp [x])) e) hf
  rcases Bc (show K1 k key=true from hkey) with ⟨i',t,e1,e2⟩|⟨y',t,e1,e2⟩
  ·refine ⟨.int i',H,I1,⟨t,e2⟩,⟨rfl,_,h3,by rw [e1];rfl⟩,?_,fun b hb=>(hf b hb).1⟩
   rw [←vl]
   exact hit
  ·refine ⟨.str y',H,I1,⟨t,e2⟩,⟨rfl,_,h3,by rw [e1];rfl⟩,?_,fun b hb=>(hf b hb).1⟩
   rw [←vl]
   exact hit
 done:=by
  intro X hP hw hK hc i pins s σ H E I hf Z hg
  subst hP hw hK
  obtain ⟨⟨kvs,e,hk⟩,hi⟩:=hg
  obtain ⟨e0,z,lo,vs,rel,dd⟩:=(show A4 X.prog X.w H s.heap a (.frz o (.dK kvs)) from I.hok a _ e)
  have kl:=rel.length
  have nl:kvs.length=names.length:=by
   have:=congrArg List.length hk
   simpa using this
  obtain ⟨o',es',ep',r0,r1,r2,r3⟩:=dd
  rw [e0] at r0
  cases r0
  rw [ho] at r2
  cases r2
  have at':s.heap.DictAt (A3 X.prog X.w) a vs ep:=⟨o,es,e0,r1,ho,r3⟩
  have vl:vs.length=names.length:=by omega
  have Z:s.heap.IsKeyIter it a i vs.length ep:=by rw [vl];exact Z
  refine wpAny_pyNext_dict_end (I.ok.hd hc) Z at' (List.getElem?_eq_none (by omega)) fun g kp=>⟨rfl,?_⟩
  exact J2 I (t':=s.toks) (fp:=[it]) (fun c o hc e=>kp c o (fun x=>hc (by simp [x])) e) hf
 self:=fun _ _ _ _ _ Z h=>wpAny_pyIter_keyiter Z h
def Afg (te:TE):TI:=fun σ H R=>te σ H fun x H1=>∃a kvs,x=.ref a∧H1 a=some (.dK kvs)∧∀o,R (Afr a o (kvs.map (·.1))) (upd H1 a (.frz o (.dK kvs)))
theorem Xr {tg l:Expr}{te:TE}(hl:PE X l te):PI X tg l (Afg te):=by
 intro pins s σ H R I h
 refine Ba (hl pins s σ H _ I h) fun v s1 ⟨x,H1,I1,r1,q1⟩=>?_
 obtain ⟨a,kvs,e,ea,q⟩:=q1
 subst e
 cases r1
 obtain ⟨z,lo,vs,rel,dd⟩:=Uu I1.hok ea
 have kl:=rel.length
 obtain ⟨o,es,ep,r0,r1,r2,r3⟩:=dd
 have I2:=Ab6 I1 ea r0
 have at':s1.heap.DictAt (A3 X.prog X.w) a vs ep:=⟨o,es,r0,r1,r2,r3⟩
 refine wpAny_pyIter_dict lo at' ?_
 refine ⟨s1.heap.objs.size,[s1.heap.objs.size],_,_,_,rfl,I2.kept (t':=s1.toks) fun b o e=>Heap.get?_push_of_some _ e,T9 (a:=a) (names:=kvs.map (·.1)) (ep:=ep) r2,⟨_,Heap.get?_push_size _ rfl,rfl,?_⟩,fun b hb=>?_,q o⟩
 ·show Data.fields _=Data.fields _
  rw [show vs.length=(kvs.map (·.1)).length by rw [List.length_map];omega]
  rfl
 ·have e:b=s1.heap.objs.size:=by simpa using hb
  subst e
  exact I2.fpOk (Nat.le_refl _) (I2.hok.fresh (Nat.le_refl _))
theorem Su {a:Addr}{o:Obj}{kvs:List (Bl×V)}{g:TG}{tc:TT}{te:TE}{k:Nat}{js:List Nat}{σ:L2.St}{H1:Hp}{Q:VK}(R:Hp→Bl→V→Prop)(up:∀m y H H',Kt H H'→R H m y→R H' m y)(c:Bl→Bool)
  (hz:kvs.length≤1000) (hx:H1 a=some (.frz o (.dK kvs)))
  (hs:∀x H2,x∈kvs.map (·.1)→Ai H1 H2→∀(P:VK) (P':Hp→Prop),(c x=true→∀y H3,Ai H2 H3→R H3 x y→P y H3)→(c x=false→∀H3,Ai H2 H3→P' H3)→g (kV x) (List.replicate k none++capσ js σ) H2 fun σ2 H3=>σ2.drop k=capσ js σ∧tc σ2 H3 fun b H4=>Br b (te σ2 H4 P) (P' H4))
  (hq:∀D H' ys,Ai H1 H'→H1 D=none→H' D=some (.lst ys)→Aw (R H') ((kvs.map (·.1)).filter c) ys→Q (.ref D) H'):Gf (Afr a o (kvs.map (·.1))) g tc te k js σ H1 Q:=by
 unfold Gf
 intro D hD
 refine ⟨fun i m H=>m=(kvs.map (·.1)).length-i∧i≤(kvs.map (·.1)).length∧Ai H1 H∧∃ys,H D=some (.lst ys)∧Aw (R H) (((kvs.map (·.1)).take i).filter c) ys,⟨(kvs.map (·.1)).length,by simp,Nat.zero_le _,Al hD,[],Ad,.nil⟩,?_⟩
 rintro i m H ⟨rfl,hi,sm,ys,hH,ar⟩
 have sq:=sm _ _ hx
 by_cases hlt:i<(kvs.map (·.1)).length
 ·refine .inr ⟨⟨⟨kvs,sq,rfl⟩,hlt⟩,fun v H' y=>?_⟩
  obtain ⟨rfl,x,hxi,rfl⟩:=y
  have yl:ys.length<sizeLine:=by
   rw [←ar.len]
   refine Nat.lt_of_le_of_lt (List.length_filter_le _ _) ?_
   rw [List.length_take]
   exact Nat.lt_of_le_of_lt (Nat.min_le_left _ _) (Nat.lt_of_lt_of_le hlt (Nat.le_trans (by rw [List.length_map];exact hz) (by decide)))
  refine hs x _ (List.mem_of_getElem? hxi) sm _ _ (fun hc y H3 s3 r3=>⟨ys,s3 _ _ hH,yl,(kvs.map (·.1)).length-(i+1),by omega,rfl,hlt,Bs (sm.trans s3) hD,ys++[y],Ad,?_⟩) fun hc H3 s3=>⟨(kvs.map (·.1)).length-(i+1),by omega,rfl,hlt,sm.trans s3,ys,s3 _ _ hH,?_⟩
  ·have kt:Kt H3 (upd H3 D (.lst (ys++[y]))):=E6 (s3 _ _ hH)
   rw [List.take_add_one,hxi,List.filter_append]
   have ef:(Option.toList (some x)).filter c=[x]:=by simp [hc]
   rw [ef]
   exact (ar.imp fun v y r=>up v y _ _ ((A6 s3).trans kt) r).snoc (up _ _ _ _ kt r3)
  ·rw [List.take_add_one,hxi,List.filter_append]
   have ef:(Option.toList (some x)).filter c=[]:=by simp [hc]
   rw [ef,List.append_nil]
   exact ar.imp fun v y r=>up v y _ _ (A6 s3) r
 ·have e:i=(kvs.map (·.1)).length:=by omega
  subst e
  rw [List.take_length] at ar
  exact .inl ⟨⟨⟨kvs,sq,rfl⟩,Nat.le_refl _⟩,hq D _ ys sm hD hH ar⟩
theorem W9 (l:Addr)(items:Array Value)(n:Nat)(b:Addr)(items2:Array Value)(n2:Nat)(dd:Option Addr)(sl:Array (Option Value))(hs0:¬(!items.isEmpty&&Builtin.List.listTooLong (items.size+items2.size))=true)(hs1:items.size≤sizeLine)(hs2:items.size+items2.size≤sizeLine+1) :
  Meets (Builtin.«list.extend» ⟨[.ref l,.ref b],[]⟩) (fun _ R s=>s.heap.get? l=some { cls:=.type "list",dict:=none,data:=.seq items n,slots:=#[] }∧s.heap.get? b=some { cls:=.type "tuple",dict:=dd,data:=.seq items2 n2,slots:=sl }∧R (.ok (.ret Value.none)) { s with heap:=s.heap.update l (Obj.mapSeq fun x=>x++items2),toks:=s.toks }):=
 .of_wp fun prog w A R s h=>by
  obtain ⟨hp,g,d,tk,os⟩:=s;obtain ⟨hl,hb,h⟩:=h;have f1:=AutoSeq1.idx_int;have f2:=AutoSeq1.sub_tuple_tuple;have f3:=AutoSeq1.sub_list_list;have f4:=AutoSeq1.sub_tuple_list;have f5:=AutoSeq1.sub_list_tuple
  have hz':(items++items2).size≤sizeLine+1:=by rw [Array.size_append];exact hs2
  wp_walk using (wpAny_updateSeq hl rfl (hz:=hs1) (_hz':=hz')),AutoSeq1.wpAny_loadPart' hl,AutoSeq1.wpAny_loadPart' hb
  exact ⟨_,rfl,h⟩
def Ahy:V→List V→Hp→VK→Prop:=fun x vs H Q=>∃l b xs zs,x=.ref l∧vs=[.ref b]∧H l=some (.lst xs)∧H b=some (.tup zs)∧xs.length+zs.length≤sizeLine∧Q .non (upd H l (.lst (xs++zs)))
theorem Abo:MtM X "list.extend" Ahy:=by
 intro pins s σ H x vs v us Q I rx rv h
 obtain ⟨l,b,xs,zs,rfl,rfl,hH,hB,hz,q⟩:=h
 cases rx
 obtain ⟨u,rfl,ru⟩:=rv.one
 cases ru
 obtain ⟨z,its,n,r,hl,e⟩:=I.lstM hH
 obtain ⟨z2,its2,r2,⟨c2,d2,b2,l2⟩,f1,f2,n2,f3⟩:=(show A4 X.prog X.w H s.heap _ (.tup zs) from I.hok _ _ hB)
 simp only at f2 f3
 subst f2 f3
 have hl2:=r2.length
 have hsz:its.toArray.size+its2.toArray.size≤sizeLine:=by rw [List.size_toArray,List.size_toArray];omega
 have hlong:¬(!its.toArray.isEmpty&&Builtin.List.listTooLong (its.toArray.size+its2.toArray.size))=true:=by
  rw [Zd hsz,Bool.and_false]
  exact Bool.false_ne_true
 refine call_meets F.slot_list_extend ⟨_,e,rfl⟩ F.entry_list_extend (F.args_list_extend_2 _ _)
  (W9 l its.toArray n b its2.toArray n2 d2 l2 hlong (by rw [List.size_toArray];omega) (by omega)) ⟨e,f1,?_⟩
 refine ⟨.non,_,I.lset (its':=its++its2) hH e (by simp) (r.append r2) ?_,rfl,q⟩
 rw [List.length_append]
 omega
theorem Aef {i o:Expr}{ty td:TE}{pos:Pos}(hu:X.A.units+1<cLine)(hi:PE X i ty)(ho:PE X o td)(hm:behindInMarks .In o=false):PT X (.Compare i [.In] [o] pos) (Kr (Ahh ty td)):=by
 rw [Ka]
 exact Zf (Afo hu hi ho) hm
theorem Acm {i o:Expr}{ty td:TE}{pos:Pos}(hu:X.A.units+1<cLine)(hi:PE X i ty)(ho:PE X o td)(hm:behindInMarks .NotIn o=false):PT X (.Compare i [.NotIn] [o] pos) (Kr (Ur ty td)):=by
 rw [Ka]
 exact Zf (Wo hu hi ho) hm
end
end Lw
end
section
namespace Lw
open PySem PySem.Spec PyProof.Rows L2
end Lw
end
section
namespace Lw
open PySem PySem.Spec PyProof.Rows L2
def gt2 (x1 x2 y1 y2:Int):Bool:=decide (y1<x1∨x1=y1∧y2<x2)
theorem Oj {prog:Program}{w:World}{A:Around}{E:Value→Shared→Prop}{s:Shared}{a b:Int}{t u:Tok}{Q:Value→Shared→Prop}(h:Q (.bool (decide (a>b))) s):wpAny (model prog w) A (richCompare .Gt (.int a t) (.int b u)) Q E s:=gt_int h
theorem Wi (l b:Addr)(x1 x2 y1 y2:Int)(t1 t2 u1 u2 n n2:Nat)(dd dd2:Option Addr)(sl sl2:Array (Option Value)) :
  Meets (Builtin.«tuple.__gt__» ⟨[.ref l,.ref b],[]⟩)
   (fun A R s=>s.heap.get? l=some { cls:=.type "tuple",dict:=dd,data:=.seq #[.int x1 t1,.int x2 t2] n,slots:=sl }∧s.heap.get? b=some { cls:=.type "tuple",dict:=dd2,data:=.seq #[.int y1 u1,.int y2 u2] n2,slots:=sl2 } ∧
    R (.ok (.ret (.bool (gt2 x1 x2 y1 y2)))) s):=
 .of_wp fun prog w A R s h=>by
  obtain ⟨hp,g,d,tk,os⟩:=s;obtain ⟨hl,hb,h⟩:=h
  have f2:=AutoSeq1.sub_tuple_tuple
  wp_walk using AutoSeq1.wpAny_loadPart' hl,AutoSeq1.wpAny_loadPart' hb,wpAny_forIn_list _ (fun Ef b s'=>b.1=none∧s'=⟨hp,g,d,tk,os⟩∧(Ef=[(Value.int x1 t1,Value.int y1 u1),(Value.int x2 t2,Value.int y2 u2)]∨(Ef=[(Value.int x2 t2,Value.int y2 u2)]∧x1=y1)∨(Ef=[]∧x1=y1∧x2=y2))) _
  case turn=>
   rintro ⟨y,x⟩ Ef b s' ⟨hb',rfl,hz⟩
   rcases hz with hz|⟨hz,e1⟩|⟨hz,_⟩
   ·injection hz with hyx hrest
    injection hyx with hy hx
    subst hy hx
    refine wpAny_bind (MeetsSeq.EqGives.int x1 y1 t1 u1 _ _ _ _ _ _ ?_)
    cases c:(x1==y1) with
    |true=>
     have c:x1=y1:=by simpa using c
     wp_walk
     exact ⟨rfl,rfl,.inr (.inl ⟨hrest,c⟩)⟩
    | false=>
     have c:¬x1=y1:=by simpa using c
     have e:decide (x1>y1)=gt2 x1 x2 y1 y2:=by
      unfold gt2
      exact decide_eq_decide.mpr ⟨.inl,fun h=>h.resolve_right fun z=>c z.1⟩
     wp_walk using Oj
     exact ⟨_,rfl,by rw [e];exact h⟩
   ·injection hz with hyx hrest
    injection hyx with hy hx
    subst hy hx
    refine wpAny_bind (MeetsSeq.EqGives.int x2 y2 t2 u2 _ _ _ _ _ _ ?_)
    cases c:(x2==y2) with
    |true=>
     have c:x2=y2:=by simpa using c
     wp_walk
     exact ⟨rfl,rfl,.inr (.inr ⟨hrest,e1,c⟩)⟩
    | false=>
     have c:¬x2=y2:=by simpa using c
     have e:decide (x2>y2)=gt2 x1 x2 y1 y2:=by
      unfold gt2
      exact decide_eq_decide.mpr ⟨fun h=>.inr ⟨e1,h⟩,fun h=>h.elim (fun z=>absurd z (by omega)) fun z=>z.2⟩
     wp_walk using Oj
     exact ⟨_,rfl,by rw [e];exact h⟩
   ·cases hz
  case fin=>
   rintro ⟨b1,b2⟩ s' ⟨hb',rfl,hz⟩
   simp only at hb'
   subst hb'
   rcases hz with hz|⟨hz,_⟩|⟨_,e1,e2⟩
   ·cases hz
   ·cases hz
   ·have e:gt2 x1 x2 y1 y2=false:=decide_eq_false (by omega)
    rw [e] at h
    wp_walk
    exact ⟨_,rfl,h⟩
  case h=>
   exact ⟨rfl,rfl,.inl rfl⟩
section
variable {X:Cx}
def Ah0:R2:=fun x y H Q=>match x,y with
 |.ref a,.ref b=>∃x1 x2 y1 y2:Int,H a=some (.tup [.int x1,.int x2])∧H b=some (.tup [.int y1,.int y2])∧Q (.bl (gt2 x1 x2 y1 y2)) H
 |_,_=>False
theorem Aif (hu:X.A.units+64<cLine):C6 X (compareOp .Gt) Ah0:=by
 intro pins s σ H x y v u Q I rx ry q
 cases x<;>cases y<;>first
  |exact False.elim q
  | (obtain ⟨x1,x2,y1,y2,h1,h2,q⟩:=q
     cases rx
     cases ry
     obtain ⟨_,its,r,⟨c1,d1,b1,l1⟩,e1,e2,n,e3⟩:=(show A4 X.prog X.w H s.heap _ (.tup [.int x1,.int x2]) from I.hok _ _ h1)
     obtain ⟨_,its2,r2,⟨c2,d2,b2,l2⟩,f1,f2,n2,f3⟩:=(show A4 X.prog X.w H s.heap _ (.tup [.int y1,.int y2]) from I.hok _ _ h2)
     obtain ⟨w1,w2,rfl,⟨t1,rfl⟩,⟨t2,rfl⟩⟩:=Fi r
     obtain ⟨w3,w4,rfl,⟨u1,rfl⟩,⟨u2,rfl⟩⟩:=Fi r2
     simp only at e2 e3 f2 f3
     subst e2 e3 f2 f3
     exact richCompare_meets_room (op:=.Gt) ⟨_,e1,rfl⟩ ⟨_,f1,rfl⟩ F.slot_tuple_gt F.entry_tuple_gt (F.args_tuple_gt_2 _ _) (Wi _ _ x1 x2 y1 y2 t1 t2 u1 u2 n n2 d1 d2 l1 l2)
       ⟨e1,f1,show Value.bool (gt2 x1 x2 y1 y2)≠Value.notImplemented∧_ from ⟨(fun x=>nomatch x),.bl _,H,I,rfl,q⟩⟩ (by omega))
end
end Lw
end
section
namespace Lw
open PySem PySem.Spec PyProof.Rows L2
section
variable {X:Cx}
end
end Lw
end
section
set_option autoImplicit false
namespace Lw
open PySem PySem.Spec PyProof.Rows L2
structure Dq (K:PySem.W.Frag)(Cs Ds:List Addr)(m qual:Str)(st:Stmt)(ps:List Str):Prop where
 ex:∃(f:Addr) (fd:FuncData),Fun K m qual st f fd∧(∀C∈Cs,Aak K C m f)∧(∀C∈Ds,PySem.W.findCls K (.ref C) (.type "type") m=some (.val (.ref f)))∧Fc K fd ps []
structure Cr (P:Program)(w:World)(K:PySem.W.Frag)(mg:Str→Option Value)(base:Heap)(Cs Ds:List Addr)(m:Str)(ps:List Str)(k:Nat)(sp:Sp):Prop where
 ex:∃(f:Addr) (fd:FuncData),(∀C∈Cs,Aak K C m f)∧(∀C∈Ds,PySem.W.findCls K (.ref C) (.type "type") m=some (.val (.ref f)))∧PySem.W.keepIn K (.ref f)=true∧Fc K fd ps []∧Gv P w K mg base (F9 P w) k f fd ps sp
section
variable {P:Program}{w:World}{K:PySem.W.Frag}{mg:Str→Option Value}{base:Heap}{Cs Ds:List Addr}
theorem Dq.calX {m qual:Str}{st:Stmt}{N ps:List Str}{k:Nat}{sp:Sp}(d:Dq K Cs Ds m qual st ps)(S:Ao N ps (Ag st))(len:∀vs H Q E,sp vs H Q E→vs.length=ps.length)
  (hbody:∀(f:Addr) (cdv:Value) (A:Around) (outer:List Env) (s:Shared) (H:Hp) (vs:List V) (Q:VK) (E:XK),Bu k (A.deeper (envOfC qual (Ag st) s.heap.objs.size f cdv))→sp vs H Q E →
   ∃t,Ko (Dh (F9 P w) P w K mg base N qual (Ag st) f cdv A outer s H E) (Bp st) t∧t { nx:=fun _ H'=>Q .non H',rt:=Q } (F7 N vs) H):Cr P w K mg base Cs Ds m ps (k+1) sp:=by
 obtain ⟨f,fd,F,hm,hd,hb⟩:=d.ex
 obtain ⟨oc,od,kV,doc,pm,an,cdv,ct,osl,rfl,lk,hcd⟩:=F.ex
 exact ⟨f,_,hm,hd,F.kp,hb,X6 lk hcd S len fun A outer s H vs Q E hr hsp=>hbody f cdv A outer s H vs Q E hr hsp⟩
theorem Dq.cal {m qual:Str}{st:Stmt}{N ps:List Str}{k:Nat}{sp:Sp}(d:Dq K Cs Ds m qual st ps)(S:Ao N ps (Ag st))(len:∀vs H Q E,sp vs H Q E→vs.length=ps.length)
  (hbody:∀(f:Addr) (cdv:Value) (A:Around) (outer:List Env) (s:Shared) (H:Hp) (vs:List V) (Q:VK) (E:XK),Bu k (A.deeper (envOfC qual (Ag st) s.heap.objs.size f cdv))→sp vs H Q E →
   ∃t,Ko (Dh (F9 P w) P w K mg base N qual (Ag st) f cdv A outer s H E).nox (Bp st) t∧t { nx:=fun _ H'=>Q .non H',rt:=Q } (F7 N vs) H):Cr P w K mg base Cs Ds m ps (k+1) sp:=
 d.calX S len fun f cdv A outer s H vs Q E hr hsp=>by
  obtain ⟨t,h,q⟩:=hbody f cdv A outer s H vs Q E hr hsp
  exact ⟨t,h.nox,q⟩
def MV (P:Program)(w:World)(K:PySem.W.Frag)(mg:Str→Option Value)(base:Heap)(m:Str)(k:Nat)(T:List (Addr×Sp)):Prop:=
 ∀p∈T,∃(f:Addr) (fd:FuncData) (ps:List Str),M8 K p.1∧Aak K p.1 m f∧Fc K fd ps []∧Gv P w K mg base (F9 P w) k f fd ps p.2
theorem Cv {m:Str}{k:Nat}:MV P w K mg base m k []:=fun p hp=>by cases hp
theorem B8 {C:Addr}{m:Str}{ps:List Str}{k k':Nat}{sp:Sp}{T:List (Addr×Sp)}(c:Cr P w K mg base Cs Ds m ps k sp)(hC:C∈Cs)(cl:M8 K C)(hk:k≤k')(r:MV P w K mg base m k' T):MV P w K mg base m k' ((C,sp)::T):=fun p hp=>by
 rcases List.mem_cons.mp hp with rfl|hp
 ·obtain ⟨f,fd,h1,_,_,h3,h4⟩:=c.ex
  exact ⟨f,fd,ps,cl,h1 C hC,h3,h4.mono hk⟩
 ·exact r p hp
end
def Pp (T:List (Addr×Sp))(m:Str)(E:XK)(ta:TE)(t:TA):TE:=fun σ H Q=>ta σ H fun x H1=>∃a C dx fs sp,x=.ref a∧H1 a=some (.ins C dx fs)∧(C,sp)∈T∧fs.lookup m=none∧t σ H1 fun vs H2=>sp (.ref a::vs) H2 Q E
structure MkC (K:PySem.W.Frag)(C:Addr):Prop where
 makes:PySem.W.makesIn K C=true
 kp:PySem.W.keepIn K (.ref C)=true
structure RdC (K:PySem.W.Frag)(C:Addr):Prop where
 reads:PySem.W.readsIn K C (.type "type")=true
 ga:PySem.W.specialIn K (.ref C) "__getattribute__"=some (some (.builtin "type.__getattribute__"))
def Ve (C:Addr)(sp:Sp)(E:XK)(t:TA):TE:=fun σ H Q=>t σ H fun vs H1=>∀x dx,H1 x=none→H1 dx=none→dx≠x →
 sp (.ref x::vs) (upd (upd H1 dx (.own x)) x (.ins C dx [])) (fun v H2=>v=.non∧Q (.ref x) H2) E
theorem Z5 (C:Addr)(sp:Sp)(E:XK)(t:TA):Ve C sp E t=Zm C sp [] E t:=by
 funext σ H Q
 unfold Ve Zm
 simp only [List.append_nil]
section
variable {X:Cx}{pos p:Pos}{Cs Ds:List Addr}{E:XK}
theorem Ai4 {o e:Expr}{es:List Expr}{ta:TE}{t:TA}{T:List (Addr×Sp)}{m:Str}{k:Nat}{apos:Pos}{pl:Sem Bool}(he:PE X o ta)(hT:MV X.prog X.w X.K X.mg X.base m k T)(hr:Bu k X.A)(hx:F1 (F9 X.prog X.w) X E)(ha:PA X (e::es) t)
  (hst:starEach (e::es) X.env=(false,eval e X.env)::starEach es X.env) (hpl:(backTo pos (starEach es X.env)).any (·.1)=false)
  (ht:eval (.Call (.Attribute o m apos) (e::es) [] pos) X.env=(do
   let ov ←eval o X.env
   standAt apos.atName
   let (f,first) ←holding [ov] (getMethod ov m pl)
   callWith pos f first (backTo pos (starEach (e::es) X.env)) (backToKw pos (keywordEach [] X.env)))) :
  PE X (.Call (.Attribute o m apos) (e::es) [] pos) (Pp T m E ta t):=by
 intro pins s σ H Q I h
 refine PySem.W.methodCall_KW (pl:=pl) (Ba (he pins s σ H _ I h) fun u s1 ⟨x,H1,I1,rx,a,C,dx,fs,sp,ex,ea,hC,l,q⟩=>?_) ht
 subst ex
 obtain rfl:u=Value.ref a:=rx
 obtain ⟨f,fd,ps,c,hm,hb,F⟩:=hT _ hC
 refine Hy I1 ea c hm l ?_
 refine PySem.W.callWith_K (first:=[.ref a]) (h₀:=X.base) I.ok.mod.kin hm.kp (Ba (ha pos pins s1 σ H1 _ I1 q) fun us s2 ⟨vs,H2,I2,r,q2⟩=>⟨I2.kIn,?_⟩) hst hpl
 exact Tw (us:=.ref a::us) (vs:=.ref a::vs) (dvs:=[]) F hr hb .nil hx I2 (.cons rfl r) (by rw [List.append_nil];exact q2)
theorem Aek {o:Expr}{ta:TE}{T:List (Addr×Sp)}{m:Str}{k:Nat}{apos:Pos}{pl:Sem Bool}(he:PE X o ta)(hT:MV X.prog X.w X.K X.mg X.base m k T)(hr:Bu k X.A)(hx:F1 (F9 X.prog X.w) X E)
  (ht:eval (.Call (.Attribute o m apos) [] [] pos) X.env=(do
   let ov ←eval o X.env
   standAt apos.atName
   let (f,first) ←holding [ov] (getMethod ov m pl)
   callWith pos f first (backTo pos (starEach [] X.env)) (backToKw pos (keywordEach [] X.env)))) :
  PE X (.Call (.Attribute o m apos) [] [] pos) (Pp T m E ta Agh):=by
 intro pins s σ H Q I h
 refine PySem.W.methodCall_KW (pl:=pl) (Ba (he pins s σ H _ I h) fun u s1 ⟨x,H1,I1,rx,a,C,dx,fs,sp,ex,ea,hC,l,q⟩=>?_) ht
 subst ex
 obtain rfl:u=Value.ref a:=rx
 obtain ⟨f,fd,ps,c,hm,hb,F⟩:=hT _ hC
 refine Hy I1 ea c hm l ?_
 exact PySem.W.callWith_K0 (first:=[.ref a]) I1.kIn hm.kp (Tw (us:=[.ref a]) (vs:=[.ref a]) (dvs:=[]) F hr hb .nil hx I1 (.cons rfl .nil) q)
theorem O7 {o e:Expr}{es:List Expr}{ta:TE}{t:TA}{T:List (Addr×Sp)}{m:Str}{k:Nat}{apos:Pos}{pl:Sem Bool}(he:PE X o ta)(hT:MV X.prog X.w X.K X.mg X.base m k T)(hr:Bu k X.A)(ha:PA X (e::es) t)
  (hst:starEach (e::es) X.env=(false,eval e X.env)::starEach es X.env:=by rfl) (hpl:(backTo pos (starEach es X.env)).any (·.1)=false:=by rfl)
  (ht:eval (.Call (.Attribute o m apos) (e::es) [] pos) X.env=(do
   let ov ←eval o X.env
   standAt apos.atName
   let (f,first) ←holding [ov] (getMethod ov m pl)
   callWith pos f first (backTo pos (starEach (e::es) X.env)) (backToKw pos (keywordEach [] X.env))):=by rfl) :
  PE X (.Call (.Attribute o m apos) (e::es) [] pos) (Pp T m E0 ta t):=Ai4 he hT hr Qd ha hst hpl ht
theorem Dg {o:Expr}{ta:TE}{T:List (Addr×Sp)}{m:Str}{k:Nat}{apos:Pos}{pl:Sem Bool}(he:PE X o ta)(hT:MV X.prog X.w X.K X.mg X.base m k T)(hr:Bu k X.A)
  (ht:eval (.Call (.Attribute o m apos) [] [] pos) X.env=(do
   let ov ←eval o X.env
   standAt apos.atName
   let (f,first) ←holding [ov] (getMethod ov m pl)
   callWith pos f first (backTo pos (starEach [] X.env)) (backToKw pos (keywordEach [] X.env))):=by rfl) :
  PE X (.Call (.Attribute o m apos) [] [] pos) (Pp T m E0 ta Agh):=Aek he hT hr Qd ht
theorem Aic {x:Str}{C:Addr}{ps:List Str}{k k':Nat}{sp:Sp}{e:Expr}{es:List Expr}{t:TA}(c:Cr X.prog X.w X.K X.mg X.base Cs Ds "__init__" ps k sp)(hC:C∈Cs)(M:MkC X.K C)(hr:Bu k' X.A)(hk:k+1≤k')(hg:Gl X x)(hm:X.mg x=some (.ref C))(hx:F1 (F9 X.prog X.w) X E)
  (ha:PA X (e::es) t) (hdb:(x==("__debug__":Str))=false) (he:starEach (e::es) X.env=(false,eval e X.env)::starEach es X.env) (hpl:(backTo pos (starEach es X.env)).any (·.1)=false) :
  PE X (.Call (.Name x p) (e::es) [] pos) (Ve C sp E t):=by
 obtain ⟨f,fd,h1,_,_,h3,h4⟩:=c.ex
 rw [Z5]
 exact Acx ⟨M.makes,(h1 C hC).at_,(h1 C hC).fn,M.kp⟩ h4 (hr.mono hk) hg hm h3 .nil hx ha hdb he hpl
theorem Oz {x:Str}{C:Addr}{ps:List Str}{k k':Nat}{sp:Sp}{e:Expr}{es:List Expr}{t:TA}(c:Cr X.prog X.w X.K X.mg X.base Cs Ds "__init__" ps k sp)(hC:C∈Cs)(M:MkC X.K C)(hr:Bu k' X.A)(hk:k+1≤k')(hg:Gl X x)(hm:X.mg x=some (.ref C))
  (ha:PA X (e::es) t) (hdb:(x==("__debug__":Str))=false:=by decide) (he:starEach (e::es) X.env=(false,eval e X.env)::starEach es X.env:=by rfl) (hpl:(backTo pos (starEach es X.env)).any (·.1)=false:=by rfl) :
  PE X (.Call (.Name x p) (e::es) [] pos) (Ve C sp E0 t):=Aic c hC M hr hk hg hm Qd ha hdb he hpl
structure IsC (K:PySem.W.Frag)(C:Addr):Prop where
 ha:PySem.W.findIn K (.ref C) "__class__"=some (some (.builtin "object.__class__"))
 hn:PySem.W.specialIn K (.builtin "object.__class__") "__get__"=some (some (.builtin "getset_descriptor.__get__"))
 ht:PySem.W.takesIn K (.builtin "object.__class__")=some true
 hm:PySem.W.mroIn K C (.type "object")=some true
theorem ac_nil {p:Addr→Prop}:∀C∈([]:List Addr),p C:=fun _ h=>by cases h
theorem ac_cons {p:Addr→Prop}{c:Addr}{l:List Addr}(h:p c)(r:∀C∈l,p C):∀C∈c::l,p C:=fun C hC=>by
 rcases List.mem_cons.mp hC with rfl|hC
 ·exact h
 ·exact r C hC
end
end Lw
end
section
set_option autoImplicit false
namespace Lw
open PySem PySem.Spec PyProof.Rows L2
abbrev cxT (X:Cx)(σ0:L2.St)(p0:List (Addr×Obj))(Eh:XK):Cx:={ X with pn:=X.pn++p0,xe:=fun e s'=>∃H1 s1,Ap X p0 σ0 H1 s1∧F9 X.prog X.w X.stack H1 s1 Eh e s' }
section
variable {X:Cx}{p0 pins:List (Addr×Obj)}{σ0 σ:L2.St}{H:Hp}{s:Shared}{Eh:XK}
theorem Wz (I:Ap X p0 σ H s):Ap (cxT X σ0 p0 Eh) [] σ H s:=
 ⟨⟨I.ok.mod,I.ok.kind,I.ok.glob,I.ok.blt,I.ok.above,I.ok.inj,I.ok.has,I.ok.cab,I.ok.hd,I.ok.frames,I.ok.stk,I.ok.exf,I.ok.bs,I.ok.bsz,I.ok.noex,I.ok.exfs,I.ok.funs,I.ok.frf⟩,I.os,I.bare,I.base,I.loc,I.cell,I.free,I.freeC,fun p hp=>I.pin p (by
  have hp:p∈(X.pn++p0)++[]:=hp
  rwa [List.append_nil] at hp),I.hok,I.len⟩
theorem D9 (I:Ap (cxT X σ0 p0 Eh) pins σ H s):Ap X p0 σ H s:=
 ⟨⟨I.ok.mod,I.ok.kind,I.ok.glob,I.ok.blt,I.ok.above,I.ok.inj,I.ok.has,I.ok.cab,I.ok.hd,I.ok.frames,I.ok.stk,I.ok.exf,I.ok.bs,I.ok.bsz,I.ok.noex,I.ok.exfs,I.ok.funs,I.ok.frf⟩,I.os,I.bare,I.base,I.loc,I.cell,I.free,I.freeC,fun p hp=>I.pin p (List.mem_append_left _ hp),I.hok,I.len⟩
end
def hnd (K:PySem.W.Frag)(D':Addr)(n:Nat)(tu:TS)(D:Nq)(σ:L2.St):XK:=fun cls _ H2=>∃C,cls=.ref C∧G3 K C∧PySem.W.mroIn K C (.ref D')=some true ∧
 ∀a H3,Ai H2 H3→H3 a=some (.ext (C3 a C))→tu { nx:=fun σ' H'=>D.nx (σ'.set n none) H',rt:=D.rt,bk:=fun σ' H'=>D.bk (σ'.set n none) H',ct:=fun σ' H'=>D.ct (σ'.set n none) H' } (σ.set n (some (.ref a))) H3
def Ahk (K:PySem.W.Frag)(tb:L2.St→XK→TS)(D':Addr)(n:Nat)(tu:TS):TS:=fun D σ H=>tb σ (hnd K D' n tu D σ) D σ H
theorem Acg {X:Cx}{body:List Stmt}{tb:L2.St→XK→TS}{pos yp hpos:Pos}{D':Addr}{n:Nat}{y nm:Str}{b₀:Stmt}{suite:List Stmt}{tu:TS}(dx:Rt X)(hb:∀σ0 p0 Eh,Ko (cxT X σ0 p0 Eh) body (tb σ0 Eh))
  (hy:Gl X y) (hD:X.mg y=some (.ref D')) (cD:Cat X.K D') (nd:X.N.Nodup) (hn:X.N[n]? =some nm) (hl:X.env.scope.names.lookup nm=some .local) (hu:∀v,Ko (cxM X v) (b₀::suite) tu) (hdb2:(y==("__debug__":Str))=false:=by decide) :
  PS X (.Try body [.ExceptHandler (some (.Name y yp)) (some nm) (b₀::suite) hpos] [] [] pos) (Ahk X.K tb D' n tu):=by
 intro pins s σ H D I h
 refine wpAny_Try_except (wpAny_mono (hb σ pins (hnd X.K D' n tu D σ) [] s σ H D (Wz I) h) (fun fl s1 q=>?_) fun ev s1 q=>?_)
 ·cases fl with
  |next=>
   obtain ⟨σ',H',I',q⟩:=q
   exact wpAny_execs_nil ⟨σ',H',D9 I',q⟩
  |brk=>
   obtain ⟨σ',H',I',q⟩:=q
   exact ⟨σ',H',D9 I',q⟩
  |cont=>
   obtain ⟨σ',H',I',q⟩:=q
   exact ⟨σ',H',D9 I',q⟩
  |ret u=>
   obtain ⟨v,σ',H',I',r,q⟩:=q
   exact ⟨v,σ',H',D9 I',r,q⟩
 ·obtain ⟨H1,s2,I1,a,cls,H2,B,a0,rfl,F,C',rfl,c,hm,q2⟩:=q
  exact W6 dx I1 F hy hD cD hm nd hn hl hu hdb2 fun H3=>q2 a H3
section
variable {X:Cx}{p0:List (Addr×Obj)}{σ0:L2.St}{Eh:XK}{pos p:Pos}
theorem Acz {k:Nat}{f:Addr}{fd:FuncData}{ps:List Str}{sp:Sp}{pins:List (Addr×Obj)}{H:Hp}{s:Shared}{Q:VK}{us:List Value}{vs:List V}(F:Gv X.prog X.w X.K X.mg X.base (F9 X.prog X.w) k f fd ps sp)(hr:Bu k X.A)(hb:Fc X.K fd ps [])
  (I:Ap (cxT X σ0 p0 Eh) pins σ0 H s) (r:Az vs us) (h:sp vs H Q Eh):wpAny (model X.prog X.w) X.A (call (.ref f) us) (EP (cxT X σ0 p0 Eh) pins σ0 Q) (cxT X σ0 p0 Eh).xe s:=by
 have hl:(us++[]).length=ps.length:=by
  rw [List.append_nil,←r.length]
  exact F.len _ _ _ _ h
 have hb':=hb s us I.kIn hl
 rw [List.append_nil] at hb'
 refine wpAny_call (codeAny_mono (F.run X.A X.stack s H ⟨us,[]⟩ us vs Q Eh hr I.env0 hb' r h) fun res s' hq=>?_)
 cases res with
 |error er=>exact ⟨H,s,D9 I,hq⟩
 |ok fl=>
  cases fl with
  |ret u=>exact I.after hq
  |next=>exact False.elim hq
  |brk=>exact False.elim hq
  |cont=>exact False.elim hq
def Agt (T:List (Addr×Sp))(m:Str)(σ0:L2.St)(E:XK)(ta:TE)(t:TA):TE:=fun σ H Q=>ta σ H fun x H1=>∃a C dx fs sp,x=.ref a∧H1 a=some (.ins C dx fs)∧(C,sp)∈T∧fs.lookup m=none∧t σ H1 fun vs H2=>σ=σ0∧sp (.ref a::vs) H2 Q E
theorem Px {o e:Expr}{es:List Expr}{ta:TE}{t:TA}{T:List (Addr×Sp)}{m:Str}{k:Nat}{apos:Pos}{pl:Sem Bool}(he:PE (cxT X σ0 p0 Eh) o ta)(hT:MV X.prog X.w X.K X.mg X.base m k T)(hr:Bu k X.A)(ha:PA (cxT X σ0 p0 Eh) (e::es) t)
  (hst:starEach (e::es) X.env=(false,eval e X.env)::starEach es X.env:=by rfl) (hpl:(backTo pos (starEach es X.env)).any (·.1)=false:=by rfl)
  (ht:eval (.Call (.Attribute o m apos) (e::es) [] pos) X.env=(do
   let ov ←eval o X.env
   standAt apos.atName
   let (f,first) ←holding [ov] (getMethod ov m pl)
   callWith pos f first (backTo pos (starEach (e::es) X.env)) (backToKw pos (keywordEach [] X.env))):=by rfl) :
  PE (cxT X σ0 p0 Eh) (.Call (.Attribute o m apos) (e::es) [] pos) (Agt T m σ0 Eh ta t):=by
 intro pins s σ H Q I h
 refine PySem.W.methodCall_KW (pl:=pl) (Ba (he pins s σ H _ I h) fun u s1 ⟨x,H1,I1,rx,a,C,dx,fs,sp,ex,ea,hC,l,q⟩=>?_) ht
 subst ex
 obtain rfl:u=Value.ref a:=rx
 obtain ⟨f,fd,ps,c,hm,hb,F⟩:=hT _ hC
 refine Hy I1 ea c hm l ?_
 refine PySem.W.callWith_K (first:=[.ref a]) (h₀:=X.base) I.ok.mod.kin hm.kp (Ba (ha pos pins s1 σ H1 _ I1 q) fun us s2 ⟨vs,H2,I2,r,eσ,q2⟩=>⟨I2.kIn,?_⟩) hst hpl
 subst eσ
 exact Acz (us:=.ref a::us) (vs:=.ref a::vs) F hr hb I2 (.cons rfl r) q2
end
section
variable {P:Program}{w:World}{K:PySem.W.Frag}{mg:Str→Option Value}{base:Heap}{N:List Str}{qual:Str}{scope:Scope}{f:Addr}{cd:Value}{A:Around}{outer:List Env}{s₀:Shared}{H₀:Hp}{E:XK}{pos:Pos}
end
end Lw
end
set_option maxHeartbeats 0
set_option exponentiation.threshold 5000
namespace My
open PySem PySem.Spec PyProof.Rows L2 Lw
local macro_rules | `(tactic| walk_at "hp")=>`(tactic| first | assumption | (refine sm_at (by assumption) ?_; walk_at "hp") | (refine sm_sq (by assumption) ?_; walk_at "hp") | (refine Fq.up (by assumption) ?_; walk_at "hp") | (refine Pq.up (by assumption) ?_; walk_at "hp"))
def Eu (i:Nat):Stmt:=PySem.Challenge.pw_ladderworth_k52_what_a_ledger_refuses.main.body.getD i (.Pass ⟨0,0,0,0⟩)
abbrev Hz:Stmt:=Eu 11
abbrev Ht:Stmt:=Eu 12
abbrev Cq:Stmt:=Eu 13
abbrev Tn:Stmt:=Eu 14
abbrev Ph:Stmt:=Eu 15
abbrev Pu:Stmt:=Eu 16
abbrev Fx:Stmt:=Eu 18
abbrev Fp:Stmt:=Eu 22
abbrev Cp:Stmt:=Eu 23
abbrev Kg:Stmt:=Eu 24
abbrev El:Stmt:=Eu 26
abbrev Ov:Stmt:=Eu 28
abbrev Gp:Stmt:=Eu 29
abbrev E1:Stmt:=Eu 30
abbrev Tc:Stmt:=Eu 31
abbrev Jv:Stmt:=Eu 32
abbrev Cy:Stmt:=C9 (Eu 34) 0
abbrev Ft:Stmt:=C9 (Eu 34) 1
abbrev E4:Stmt:=C9 (Eu 34) 2
abbrev Ec:Stmt:=C9 (Eu 34) 3
abbrev Dr:Stmt:=C9 (Eu 34) 4
abbrev Eb:Stmt:=C9 (Eu 34) 5
abbrev Jw:Stmt:=Eu 35
abbrev L9:Stmt:=Eu 36
abbrev Hx:Stmt:=Eu 42
abbrev Ly:Stmt:=Eu 43
abbrev Jo:Stmt:=Eu 44
abbrev Hs:Stmt:=Eu 45
abbrev Kb:Stmt:=Eu 46
abbrev Eg:Stmt:=Eu 47
abbrev Dt:Stmt:=C9 (Eu 48) 0
abbrev Gi:Stmt:=C9 (Eu 48) 1
abbrev Ho:Stmt:=C9 (Eu 48) 2
abbrev G1:Stmt:=C9 (Eu 48) 3
abbrev Gq:Stmt:=Eu 49
abbrev Mm:Stmt:=Eu 51
abbrev Ju:Stmt:=Eu 52
abbrev M6:Stmt:=Eu 53
abbrev Jr:Stmt:=Eu 54
abbrev Ga:Stmt:=Eu 55
abbrev Jp:Stmt:=Eu 56
abbrev O1:Stmt:=Eu 57
abbrev Mc:Stmt:=Eu 58
abbrev Jy:Stmt:=Eu 59
abbrev Hd:Stmt:=Eu 60
structure Bh (K:PySem.W.Frag)(mg:Str→Option Value)(c_LadderError c_Ledger c_NoBook c_NoFit c_NoGame c_NoNumber c_NoPlayer c_NoRow c_NoTable c_Rule:Addr):Prop where
 b_LadderError:mg "LadderError"=some (.ref c_LadderError)
 b_Ledger:mg "Ledger"=some (.ref c_Ledger)
 b_NoBook:mg "NoBook"=some (.ref c_NoBook)
 b_NoFit:mg "NoFit"=some (.ref c_NoFit)
 b_NoGame:mg "NoGame"=some (.ref c_NoGame)
 b_NoNumber:mg "NoNumber"=some (.ref c_NoNumber)
 b_NoPlayer:mg "NoPlayer"=some (.ref c_NoPlayer)
 b_NoRow:mg "NoRow"=some (.ref c_NoRow)
 b_NoTable:mg "NoTable"=some (.ref c_NoTable)
 b_Rule:mg "Rule"=some (.ref c_Rule)
 y_NoTable:PySem.W.nsIn K mainGlobals "NoTable"=some (some (.ref c_NoTable))
 y_NoBook:PySem.W.nsIn K mainGlobals "NoBook"=some (some (.ref c_NoBook))
 y_NoGame:PySem.W.nsIn K mainGlobals "NoGame"=some (some (.ref c_NoGame))
 y_NoPlayer:PySem.W.nsIn K mainGlobals "NoPlayer"=some (some (.ref c_NoPlayer))
 x_LadderError:G3 K c_LadderError
 x_NoBook:G3 K c_NoBook
 x_NoGame:G3 K c_NoGame
 x_NoPlayer:G3 K c_NoPlayer
 x_NoTable:G3 K c_NoTable
 kv_NoBook:PySem.W.kitOne K (.ref c_NoBook) (.type "ValueError")=some true
 kk_NoBook_NoBook:PySem.W.kitOne K (.ref c_NoBook) (.ref c_NoBook)=some true
 kk_NoBook_NoFit:PySem.W.kitOne K (.ref c_NoBook) (.ref c_NoFit)=some false
 kk_NoBook_NoGame:PySem.W.kitOne K (.ref c_NoBook) (.ref c_NoGame)=some false
 kk_NoBook_NoNumber:PySem.W.kitOne K (.ref c_NoBook) (.ref c_NoNumber)=some false
 kk_NoBook_NoPlayer:PySem.W.kitOne K (.ref c_NoBook) (.ref c_NoPlayer)=some false
 kk_NoBook_NoRow:PySem.W.kitOne K (.ref c_NoBook) (.ref c_NoRow)=some false
 kk_NoBook_NoTable:PySem.W.kitOne K (.ref c_NoBook) (.ref c_NoTable)=some false
 km_NoBook_LadderError:PySem.W.mroIn K c_NoBook (.ref c_LadderError)=some true
 kv_NoGame:PySem.W.kitOne K (.ref c_NoGame) (.type "ValueError")=some true
 kk_NoGame_NoBook:PySem.W.kitOne K (.ref c_NoGame) (.ref c_NoBook)=some false
 kk_NoGame_NoFit:PySem.W.kitOne K (.ref c_NoGame) (.ref c_NoFit)=some false
 kk_NoGame_NoGame:PySem.W.kitOne K (.ref c_NoGame) (.ref c_NoGame)=some true
 kk_NoGame_NoNumber:PySem.W.kitOne K (.ref c_NoGame) (.ref c_NoNumber)=some false
 kk_NoGame_NoPlayer:PySem.W.kitOne K (.ref c_NoGame) (.ref c_NoPlayer)=some false
 kk_NoGame_NoRow:PySem.W.kitOne K (.ref c_NoGame) (.ref c_NoRow)=some false
 kk_NoGame_NoTable:PySem.W.kitOne K (.ref c_NoGame) (.ref c_NoTable)=some false
 km_NoGame_LadderError:PySem.W.mroIn K c_NoGame (.ref c_LadderError)=some true
 kv_NoPlayer:PySem.W.kitOne K (.ref c_NoPlayer) (.type "ValueError")=some true
 kk_NoPlayer_NoBook:PySem.W.kitOne K (.ref c_NoPlayer) (.ref c_NoBook)=some false
 kk_NoPlayer_NoFit:PySem.W.kitOne K (.ref c_NoPlayer) (.ref c_NoFit)=some false
 kk_NoPlayer_NoGame:PySem.W.kitOne K (.ref c_NoPlayer) (.ref c_NoGame)=some false
 kk_NoPlayer_NoNumber:PySem.W.kitOne K (.ref c_NoPlayer) (.ref c_NoNumber)=some false
 kk_NoPlayer_NoPlayer:PySem.W.kitOne K (.ref c_NoPlayer) (.ref c_NoPlayer)=some true
 kk_NoPlayer_NoRow:PySem.W.kitOne K (.ref c_NoPlayer) (.ref c_NoRow)=some false
 kk_NoPlayer_NoTable:PySem.W.kitOne K (.ref c_NoPlayer) (.ref c_NoTable)=some false
 km_NoPlayer_LadderError:PySem.W.mroIn K c_NoPlayer (.ref c_LadderError)=some true
 y_Ledger:PySem.W.nsIn K mainGlobals "Ledger"=some (some (.ref c_Ledger))
 l_Ledger:M8 K c_Ledger
 m_Ledger:MkC K c_Ledger
 na_Ledger_kept:NoAttr K c_Ledger "kept"
 na_Ledger_last:NoAttr K c_Ledger "last"
 na_Ledger_rule:NoAttr K c_Ledger "rule"
 y_Rule:PySem.W.nsIn K mainGlobals "Rule"=some (some (.ref c_Rule))
 l_Rule:M8 K c_Rule
 m_Rule:MkC K c_Rule
 na_Rule_first:NoAttr K c_Rule "first"
 na_Rule_step:NoAttr K c_Rule "step"
 na_Rule_table:NoAttr K c_Rule "table"
section
variable {P:Program}{w:World}{K:PySem.W.Frag}{mg:Str→Option Value}{base:Heap}{ns:List Int}
variable {c_LadderError c_Ledger c_NoBook c_NoFit c_NoGame c_NoNumber c_NoPlayer c_NoRow c_NoTable c_Rule:Addr}{a_FIRST_ROW:Addr}{b_FIRST_ROW_1:Addr}
--@thinall
theorem nb {P:Prop}{a b:Bool}(h:a=b)(n:(a==b)=false:=by rfl):P:=by
 subst h
 rw [beq_self_eq_true] at n
 cases n
def wh:V→Bool
 |.int _=>true
 |_=>false
def Kd (H:Hp):V→Prop
 |.int _=>True
 |.bl _=>True
 |.non=>True
 |.str _=>True
 |.ref p=>∃u t,H p=some u∧Acv u=some t∧Ym t "int"=some false
 |_=>False
theorem Kd.up {H H':Hp}(s:Ai H H'):∀{v:V},Kd H v→Kd H' v
 |.int _,h=>h
 |.bl _,h=>h
 |.non,h=>h
 |.str _,h=>h
 |.ref p,⟨u,t,h1,h2⟩=>⟨u,t,s _ _ h1,h2⟩
 |.flt _,h=>h.elim
 |.byt _,h=>h.elim
 |.ty _,h=>h.elim
def ExN (K:PySem.W.Frag)(x:Str)(E:XK)(H:Hp):Prop:=∀C,PySem.W.nsIn K mainGlobals x=some (some (.ref C))→E (.ref C) none H
def Gj (K:PySem.W.Frag)(ns:List Int):Sp:=fun vs H Q _=>match vs with
 |[v]=>Kd H v∧Q (.bl (wh v)) H
 |_=>False
theorem Rc:Ao ["thing"] ["thing"] (Ag Hz):=⟨rfl,rfl,rfl,by decide +kernel,rfl,by decide +kernel,by decide +kernel⟩
theorem Q1 (d:B0 K mg "is_whole" Hz ["thing"])(er:Bh K mg c_LadderError c_Ledger c_NoBook c_NoFit c_NoGame c_NoNumber c_NoPlayer c_NoRow c_NoTable c_Rule)(n_isinstance:mg "isinstance"=none)(n_bool:mg "bool"=none)(n_int:mg "int"=none)  :Bf P w K mg base "is_whole" ["thing"] 1 (Gj K ns):=by
 refine d.cal (k:=0) Rc (fun vs H Q E h=>?_) (fun f cdv A outer s H vs Q E hr h=>?_)
 ·match vs,h with
  |[_],_=>rfl
 ·refine ⟨_,(@Af _ _ _ (@At _ _ _ _ (@Kx _ _ _ _ _ _ _ (@Aq _ _ _ _ _ _ _ _ _ R5 (by rfl) n_isinstance (by decide +kernel) (@Aa _ _ _ _ _ (dv 0) (@Aa _ _ _ _ _ (W3 "int" (by rfl) n_int (by decide +kernel)) Ac (by rfl)) (by rfl)) (by decide) (by decide) (by rfl) (by rfl)) (@Ia _ _ _ _ _ (@Adi _ _ _ _ (@Aq _ _ _ _ _ _ _ _ _ R5 (by rfl) n_isinstance (by decide +kernel) (@Aa _ _ _ _ _ (dv 0) (@Aa _ _ _ _ _ (W3 "bool" (by rfl) n_bool (by decide +kernel)) Ac (by rfl)) (by rfl)) (by decide) (by decide) (by rfl) (by rfl))))))),?_⟩
  match vs,h with
  |[.int _],⟨_,q⟩=>exact ⟨true,rfl,fun _=>⟨false,rfl,q⟩,fun h=>absurd h (by decide)⟩
  |[.bl _],⟨_,q⟩=>exact ⟨true,rfl,fun _=>⟨true,rfl,q⟩,fun h=>absurd h (by decide)⟩
  |[.non],⟨_,q⟩=>exact ⟨false,rfl,fun h=>absurd h (by decide),fun _=>q⟩
  |[.str _],⟨_,q⟩=>exact ⟨false,rfl,fun h=>absurd h (by decide),fun _=>q⟩
  |[.ref _],⟨⟨u,t,h1,h2,h3⟩,q⟩=>exact ⟨u,false,t,h1,h2,h3,fun h=>absurd h (by decide),fun _=>q⟩
  |[.flt _],⟨z,_⟩=>exact z.elim
  |[.byt _],⟨z,_⟩=>exact z.elim
  |[.ty _],⟨z,_⟩=>exact z.elim
def Du (K:PySem.W.Frag)(ns:List Int):Sp:=fun vs H Q _=>match vs with
 |[.int x,.int y]=>Q (.int (Int.gcd x y:Int)) H
 |_=>False
theorem Bq:Ao ["one","other","rest"] ["one","other"] (Ag Cq):=⟨rfl,rfl,rfl,by decide +kernel,rfl,by decide +kernel,by decide +kernel⟩
theorem Hc (d:B0 K mg "greatest_divisor" Cq ["one","other"])(er:Bh K mg c_LadderError c_Ledger c_NoBook c_NoFit c_NoGame c_NoNumber c_NoPlayer c_NoRow c_NoTable c_Rule)(n_abs:mg "abs"=none)  :Bf P w K mg base "greatest_divisor" ["one","other"] 1 (Du K ns):=by
 refine d.cal (k:=0) Bq (fun vs H Q E h=>?_) (fun f cdv A outer s H vs Q E hr h=>?_)
 ·match vs,h with
  |[.int x,.int y],_=>rfl
 ·match vs,h with
  | [.int x,.int y],hq0=>
   have q:=hq0
   refine ⟨_,(@Ae _ _ _ _ _ (@Aci _ _ _ _ _ _ PassesOwn.never (@Bw _ _ _ _ _ _ _ _ Aka (dv 1) Ab (@A1 _ _ (by decide) (by decide))) (@Ae _ _ _ _ _ (@Ar _ _ (2) _ _ _ _ Bq.nd rfl (by trivial) (@Aj _ _ _ _ _ _ _ _ Agk (dv 0) (dv 1)) (by rfl) (by trivial)) (@Ae _ _ _ _ _ (@Ar _ _ (0) _ _ _ _ Bq.nd rfl (by trivial) (dv 1) (by rfl) (by trivial)) (@Af _ _ _ (@Ar _ _ (1) _ _ _ _ Bq.nd rfl (by trivial) (dv 2) (by rfl) (by trivial)))))) (@Af _ _ _ (@At _ _ _ _ (@Aq _ _ _ _ _ _ _ _ _ Ahw (by rfl) n_abs (by decide +kernel) (@Aa _ _ _ _ _ (dv 0) Ac (by rfl)) (by decide) (by decide) (by rfl) (by rfl))))),?_⟩
   refine ⟨fun m σ H'=>∃a b o,σ=[some (.int a),some (.int b),o]∧H'=H∧Int.gcd a b=Int.gcd x y∧m=b.natAbs,⟨_,x,y,none,rfl,rfl,rfl,rfl⟩,?_⟩
   rintro m σ H' ⟨a,b,o,rfl,rfl,g,rfl⟩
   refine ⟨fun h=>?_,fun h=>?_⟩
   ·have hb:¬b=0:=by simpa using h
    refine ⟨hb,?_⟩
    exact ⟨(a.fmod b).natAbs,Ach a hb,b,a.fmod b,_,rfl,rfl,by rw [Aal,g],rfl⟩
   ·have hb:b=0:=by simpa using h
    subst hb
    have e:(Int.gcd x y:Int)=(a.natAbs:Int):=by
     rw [←g,Int.gcd_zero_right]
    have q:Q (.int (Int.gcd x y:Int)) H':=q
    rw [e] at q
    exact q
def Df (K:PySem.W.Frag)(ns:List Int):Sp:=fun vs H Q _=>match vs with
 |[.int t,.int b]=>(b≠0∧Bd 4000 b)∧∀p H',Ai H H'→Wd H' p t b→Q (.ref p) H'
 |_=>False
theorem Go:Ao ["top","bottom","divisor"] ["top","bottom"] (Ag Ht):=⟨rfl,rfl,rfl,by decide +kernel,rfl,by decide +kernel,by decide +kernel⟩
theorem Ry (d:B0 K mg "fraction" Ht ["top","bottom"])(er:Bh K mg c_LadderError c_Ledger c_NoBook c_NoFit c_NoGame c_NoNumber c_NoPlayer c_NoRow c_NoTable c_Rule)   (c_greatest_divisor:Bf P w K mg base "greatest_divisor" ["one","other"] 1 (Du K ns))(c_is_whole:Bf P w K mg base "is_whole" ["thing"] 1 (Gj K ns)):Bf P w K mg base "fraction" ["top","bottom"] 2 (Df K ns):=by
 refine d.cal (k:=1) Go (fun vs H Q E h=>?_) (fun f cdv A outer s H vs Q E hr h=>?_)
 ·match vs,h with
  |[.int t,.int b],_=>rfl
 ·match vs,h with
  | [.int t,.int b],hq0=>
   obtain ⟨⟨b0,b1⟩,q⟩:=hq0
   refine ⟨_,(@Ae _ _ _ _ _ (@Ct _ _ _ _ _ _ _ _ (@L2.PW.pt _ _ _ (@Wg _ _ _ _ _ _ _ (@Cz _ _ _ _ (@Fk _ _ _ (@An _ _ _ _ _ _ _ _ _ _ _ c_is_whole hr (by decide) (by rfl) (@Aa _ _ _ _ _ (dv 0) Ac (by rfl)) (by decide) (by rfl) (by rfl)) (by intro _;rfl))) (@Ls _ _ _ _ (@Cz _ _ _ _ (@Fk _ _ _ (@An _ _ _ _ _ _ _ _ _ _ _ c_is_whole hr (by decide) (by rfl) (@Aa _ _ _ _ _ (dv 1) Ac (by rfl)) (by decide) (by rfl) (by rfl)) (by intro _;rfl)))))) (@Af _ _ _ Ri) A5) (@Ae _ _ _ _ _ (@Ct _ _ _ _ _ _ _ _ (@Bw _ _ _ _ _ _ _ _ G4 (dv 1) Ab (@A1 _ _ (by decide) (by decide))) (@Af _ _ _ Ri) A5) (@Ae _ _ _ _ _ (@Ar _ _ (2) _ _ _ _ Go.nd rfl (by trivial) (@An _ _ _ _ _ _ _ _ _ _ _ c_greatest_divisor hr (by decide) (by rfl) (@Aa _ _ _ _ _ (dv 0) (@Aa _ _ _ _ _ (dv 1) Ac (by rfl)) (by rfl)) (by decide) (by rfl) (by rfl)) (by rfl) (by trivial)) (@Ae _ _ _ _ _ (@Ct _ _ _ _ _ _ _ _ (@Bw _ _ _ _ _ _ _ _ Z3 (dv 1) Ab (@A1 _ _ (by decide) (by decide))) (@Af _ _ _ (@Ar _ _ (2) _ _ _ _ Go.nd rfl (by trivial) (@Vo _ _ _ _ _ _ Vr (dv 2)) (by rfl) (by trivial))) A5) (@Af _ _ _ (@At _ _ _ _ (@Cj _ _ _ _ _ (@Aa _ _ _ _ _ (@Aj _ _ _ _ _ _ _ _ Zg (dv 0) (dv 2)) (@Aa _ _ _ _ _ (@Aj _ _ _ _ _ _ _ _ Zg (dv 1) (dv 2)) Ac (by rfl)) (by rfl))))))))),?_⟩
   refine ⟨True.intro,⟨fun h=>nb h,fun _=>⟨True.intro,⟨fun h=>nb h,fun _=>?_⟩⟩⟩⟩
   refine ⟨fun h=>absurd (of_decide_eq_true h) b0,fun _=>?_⟩
   have d0:=Afq t b0
   have d1:=Agd t b0 b1
   have e1:=Ae5 t b0
   have e2:=Ae4 t b0
   refine ⟨fun h=>?_,fun h=>?_⟩
   ·have h:=of_decide_eq_true h
    have e:dvs t b=-(Int.gcd t b:Int):=if_pos h
    rw [e] at d0 d1 e1 e2
    refine ⟨⟨d0,d1⟩,⟨⟨d0,d1⟩,fun p H' s z=>q p H' s ⟨?_⟩⟩⟩
    dsimp only at z
    rw [e1,e2] at z
    exact z
   ·have h:=of_decide_eq_false h
    have e:dvs t b=(Int.gcd t b:Int):=if_neg h
    rw [e] at d0 d1 e1 e2
    refine ⟨⟨d0,d1⟩,⟨⟨d0,d1⟩,fun p H' s z=>q p H' s ⟨?_⟩⟩⟩
    dsimp only at z
    rw [e1,e2] at z
    exact z
theorem Bt {H H':Hp}{D:Addr}(s:Ai H H')(h:H' D=none):H D=none:=by
 cases e:H D with
 |none=>rfl
 |some o=>
  rw [s _ _ e] at h
  cases h
theorem Age (ns:List Int)(h:0<ns.length)(k:Int):∃n∈ns,Qt (ns.map V.int) (k % (ns.length:Int))=some (.int n):=by
 have h0:0≤k % (ns.length:Int):=Int.emod_nonneg _ (by omega)
 have h1:k % (ns.length:Int)<ns.length:=Int.emod_lt_of_pos _ (by omega)
 obtain ⟨j,hj⟩:=Int.eq_ofNat_of_zero_le h0
 have hj':j<ns.length:=by omega
 refine ⟨ns[j],List.getElem_mem hj',?_⟩
 rw [hj]
 refine Cn ?_
 rw [List.getElem?_map,List.getElem?_eq_getElem hj']
 rfl
theorem Xi {k:Int}(h0:0≤k)(h1:k<1000):0≤k*k∧k*k<1000000:=by
 have a:=Int.mul_nonneg h0 h0
 have b:k*k≤k*1000:=Int.mul_le_mul_of_nonneg_left (by omega) h0
 exact ⟨a,by omega⟩
theorem Rf {α:Type}{xs:List α}{v:α}(h:xs.getLast? =some v):Qt xs (-1)=some v:=by
 have h0:xs≠[]:=fun e=>by simp [e] at h
 have hl:0<xs.length:=List.length_pos_iff.mpr h0
 unfold Qt ixN
 rw [if_neg (by decide),if_pos (by omega)]
 show xs[(xs.length+(-1:Int)).toNat]? =some v
 rw [show (xs.length+(-1:Int)).toNat=xs.length-1 by omega,←h,List.getLast?_eq_getElem?]
def btw (v:V)(lo hi:Int):Bool:=match v with
 |.int i=>decide (lo≤i)&&decide (i≤hi)
 |_=>false
def E5 (K:PySem.W.Frag)(ns:List Int):Sp:=fun vs H Q _=>match vs with
 |[v,.int lo,.int hi]=>Kd H v∧Q (.bl (btw v lo hi)) H
 |_=>False
theorem Np:Ao ["thing","least","most"] ["thing","least","most"] (Ag Fx):=⟨rfl,rfl,rfl,by decide +kernel,rfl,by decide +kernel,by decide +kernel⟩
theorem M9 (d:B0 K mg "is_between" Fx ["thing","least","most"])(er:Bh K mg c_LadderError c_Ledger c_NoBook c_NoFit c_NoGame c_NoNumber c_NoPlayer c_NoRow c_NoTable c_Rule)   (c_is_whole:Bf P w K mg base "is_whole" ["thing"] 1 (Gj K ns)):Bf P w K mg base "is_between" ["thing","least","most"] 2 (E5 K ns):=by
 refine d.cal (k:=1) Np (fun vs H Q E h=>?_) (fun f cdv A outer s H vs Q E hr h=>?_)
 ·match vs,h with
  |[v,.int lo,.int hi],_=>rfl
 ·match vs,h with
  | [v,.int lo,.int hi],hq0=>
   obtain ⟨kd,q⟩:=hq0
   refine ⟨_,(@Af _ _ _ (@At _ _ _ _ (@Kx _ _ _ _ _ _ _ (@An _ _ _ _ _ _ _ _ _ _ _ c_is_whole hr (by decide) (by rfl) (@Aa _ _ _ _ _ (dv 0) Ac (by rfl)) (by decide) (by rfl) (by rfl)) (@Ia _ _ _ _ _ (@Abj _ _ _ _ _ _ _ _ _ _ _ _ Abb Abb (dv 1) (dv 0) (dv 2) (by with_unfolding_all rfl)))))),?_⟩
   match v,kd,q with
   | .int i,_,q=>
    refine ⟨True.intro,⟨fun _=>⟨fun h=>?_,fun h=>?_⟩,fun h=>nb h⟩⟩
    ·have e:btw (.int i) lo hi=decide (i≤hi):=by
      have h:decide (lo≤i)=true:=h
      simp only [btw,h,Bool.true_and]
     rw [e] at q
     exact q
    ·have e:btw (.int i) lo hi=false:=by
      have h:decide (lo≤i)=false:=h
      simp only [btw,h,Bool.false_and]
     rw [e] at q
     exact q
   |.bl _,kd,q=>exact ⟨kd,⟨fun h=>nb h,fun _=>q⟩⟩
   |.non,kd,q=>exact ⟨kd,⟨fun h=>nb h,fun _=>q⟩⟩
   |.str _,kd,q=>exact ⟨kd,⟨fun h=>nb h,fun _=>q⟩⟩
   |.ref _,kd,q=>exact ⟨kd,⟨fun h=>nb h,fun _=>q⟩⟩
   |.flt _,kd,_=>exact kd.elim
   |.byt _,kd,_=>exact kd.elim
   |.ty _,kd,_=>exact kd.elim
def NT (H:Hp):V→Prop
 |.int _=>True
 |.bl _=>True
 |.non=>True
 |.str _=>True
 |.ref p=>∃u t,H p=some u∧Acv u=some t∧Ym t "tuple"=some false∧Ym t "int"=some false
 |_=>False
theorem NT.up {H H':Hp}(s:Ai H H'):∀{v:V},NT H v→NT H' v
 |.int _,h=>h
 |.bl _,h=>h
 |.non,h=>h
 |.str _,h=>h
 |.ref p,⟨u,t,h1,h2⟩=>⟨u,t,s _ _ h1,h2⟩
 |.flt _,h=>h.elim
 |.byt _,h=>h.elim
 |.ty _,h=>h.elim
def V8 (H:Hp)(v:V)(b:Bool):Prop:=(∃t xs,v=.ref t∧H t=some (.tup xs)∧xs.length≤100∧b=decide ((xs.length:Int)=2))∨(NT H v∧b=false)
def Ic (K:PySem.W.Frag)(ns:List Int):Sp:=fun vs H Q _=>match vs with
 |[v]=>∃b,V8 H v b∧Q (.bl b) H
 |_=>False
theorem Th:Ao ["thing"] ["thing"] (Ag Jo):=⟨rfl,rfl,rfl,by decide +kernel,rfl,by decide +kernel,by decide +kernel⟩
theorem S3 (d:B0 K mg "is_pair" Jo ["thing"])(er:Bh K mg c_LadderError c_Ledger c_NoBook c_NoFit c_NoGame c_NoNumber c_NoPlayer c_NoRow c_NoTable c_Rule)(n_len:mg "len"=none)(n_isinstance:mg "isinstance"=none)(n_tuple:mg "tuple"=none)  :Bf P w K mg base "is_pair" ["thing"] 1 (Ic K ns):=by
 refine d.cal (k:=0) Th (fun vs H Q E h=>?_) (fun f cdv A outer s H vs Q E hr h=>?_)
 ·match vs,h with
  |[_],_=>rfl
 ·refine ⟨_,(@Af _ _ _ (@At _ _ _ _ (@Kx _ _ _ _ _ _ _ (@Aq _ _ _ _ _ _ _ _ _ R5 (by rfl) n_isinstance (by decide +kernel) (@Aa _ _ _ _ _ (dv 0) (@Aa _ _ _ _ _ (W3 "tuple" (by rfl) n_tuple (by decide +kernel)) Ac (by rfl)) (by rfl)) (by decide) (by decide) (by rfl) (by rfl)) (@Ia _ _ _ _ _ (@Bo _ _ _ _ _ _ _ _ G4 (@Aq _ _ _ _ _ _ _ _ _ Cm (by rfl) n_len (by decide +kernel) (@Aa _ _ _ _ _ (dv 0) Ac (by rfl)) (by decide) (by decide) (by rfl) (by rfl)) Ab (@A1 _ _ (by decide) (by decide))))))),?_⟩
  match vs,h with
  |[.int _],⟨_,.inr ⟨_,rfl⟩,q⟩=>exact ⟨false,rfl,fun h=>nb h,fun _=>q⟩
  |[.bl _],⟨_,.inr ⟨_,rfl⟩,q⟩=>exact ⟨false,rfl,fun h=>nb h,fun _=>q⟩
  |[.non],⟨_,.inr ⟨_,rfl⟩,q⟩=>exact ⟨false,rfl,fun h=>nb h,fun _=>q⟩
  |[.str _],⟨_,.inr ⟨_,rfl⟩,q⟩=>exact ⟨false,rfl,fun h=>nb h,fun _=>q⟩
  |[.ref _],⟨_,.inr ⟨⟨u,t,h1,h2,h3,_⟩,rfl⟩,q⟩=>exact ⟨u,false,t,h1,h2,h3,fun h=>nb h,fun _=>q⟩
  |[.ref _],⟨_,.inl ⟨_,xs,rfl,h1,_,rfl⟩,q⟩=>exact ⟨_,true,_,h1,rfl,rfl,fun _=>⟨_,.inr (Ed.of h1),q⟩,fun h=>nb h⟩
  |[.flt _],⟨_,.inr ⟨z,_⟩,_⟩=>exact z.elim
  |[.byt _],⟨_,.inr ⟨z,_⟩,_⟩=>exact z.elim
  |[.ty _],⟨_,.inr ⟨z,_⟩,_⟩=>exact z.elim
def two (a b:V):Option (Int×Int):=match a,b with
 |.int p,.int q=>some (p,q)
 |_,_=>none
def Zp (H:Hp)(v:V)(o:Option (Int×Int)):Prop:=(∃t a b,v=.ref t∧H t=some (.tup [a,b])∧Kd H a∧Kd H b∧o=two a b)∨(V8 H v false∧o=none)
theorem V8.up {H H':Hp}{v:V}{b:Bool}(s:Ai H H')(h:V8 H v b):V8 H' v b:=by
 rcases h with ⟨t,xs,a,e,z⟩|⟨a,e⟩
 ·exact .inl ⟨t,xs,a,s _ _ e,z⟩
 ·exact .inr ⟨a.up s,e⟩
theorem Zp.up {H H':Hp}{v:V}{o:Option (Int×Int)}(s:Ai H H')(h:Zp H v o):Zp H' v o:=by
 rcases h with ⟨t,a,b,e,h1,h2,h3,h4⟩|⟨a,e⟩
 ·exact .inl ⟨t,a,b,e,s _ _ h1,h2.up s,h3.up s,h4⟩
 ·exact .inr ⟨a.up s,e⟩
def Qw:Option (Int×Int)→Bool
 |some (p,q)=>decide (1≤q∧q≤9999∧0≤p∧p≤q∧Int.gcd p q=1)
 |none=>false
theorem X4 {p q:Int}(h:Int.gcd p q=1):Rx p q=p∧Nn p q=q:=by
 unfold Rx Nn
 rw [h]
 exact ⟨Int.ediv_one _,Int.ediv_one _⟩
theorem Afm {t b:Int}(hb:0<b):Sw t b=Rx t b∧Qs t b=Nn t b:=by
 unfold Sw Qs
 rw [if_neg (by omega),if_neg (by omega)]
 exact ⟨rfl,rfl⟩
def qd (x:Q2):PyData:=.tuple [.int x.1,.int x.2]
theorem Agy (p q:Q2):PyData.eqv (qd p) (qd q)=decide (p=q):=by
 show ((p.1==q.1)&&((p.2==q.2)&&true))=_
 obtain ⟨a,b⟩:=p
 obtain ⟨c,d⟩:=q
 rw [Bool.and_true]
 by_cases h1:a=c<;>by_cases h2:b=d<;>simp [h1,h2]
theorem Aam {v:V}{lo hi:Int}(h:btw v lo hi=true):∃i,v=.int i∧lo≤i∧i≤hi:=by
 cases v with
 |int i=>
  simp only [btw,Bool.and_eq_true,decide_eq_true_iff] at h
  exact ⟨i,rfl,h⟩
 |_=>exact nb h
theorem Y9 {v:V}{lo hi i:Int}(h:btw v lo hi=false)(e:v=.int i):¬(lo≤i∧i≤hi):=fun c=>by
 subst e
 simp only [btw,decide_eq_true c.1,decide_eq_true c.2] at h
 exact nb h
theorem Aeb {p q:Int}(h1:1≤q∧q≤9999)(h2:0≤p∧p≤q):Qw (some (p,q))=decide (((Sw p q,Qs p q):Q2)=(p,q)):=by
 obtain ⟨e1,e2⟩:=Afm (t:=p) (b:=q) (by omega)
 rw [e1,e2]
 refine decide_eq_decide.mpr ⟨fun h=>?_,fun h=>⟨h1.1,h1.2,h2.1,h2.2,?_⟩⟩
 ·obtain ⟨a,b⟩:=X4 h.2.2.2.2
  rw [a,b]
 ·have hb:Nn p q=q:=congrArg Prod.snd h
  have m:=Iq p q
  rw [hb] at m
  have:(Int.gcd p q:Int)=1:=Int.eq_of_mul_eq_mul_left (show q≠0 by omega) (by rw [m,Int.mul_one])
  omega
def K2 (K:PySem.W.Frag)(ns:List Int):Sp:=fun vs H Q _=>match vs with
 |[v]=>∃o,Zp H v o∧∀H',Ai H H'→Q (.bl (Qw o)) H'
 |_=>False
theorem Sl:Ao ["thing"] ["thing"] (Ag Hs):=⟨rfl,rfl,rfl,by decide +kernel,rfl,by decide +kernel,by decide +kernel⟩
theorem Rb (d:B0 K mg "is_share" Hs ["thing"])(er:Bh K mg c_LadderError c_Ledger c_NoBook c_NoFit c_NoGame c_NoNumber c_NoPlayer c_NoRow c_NoTable c_Rule)  (v_MOST_PART:Wm mg "MOST_PART" (.int (9999)))(c_fraction:Bf P w K mg base "fraction" ["top","bottom"] 2 (Df K ns))(c_is_between:Bf P w K mg base "is_between" ["thing","least","most"] 2 (E5 K ns))(c_is_pair:Bf P w K mg base "is_pair" ["thing"] 1 (Ic K ns)):Bf P w K mg base "is_share" ["thing"] 3 (K2 K ns):=by
 refine d.cal (k:=2) Sl (fun vs H Q E h=>?_) (fun f cdv A outer s H vs Q E hr h=>?_)
 ·match vs,h with
  |[v],_=>rfl
 ·match vs,h with
  | [v],hq0=>
   obtain ⟨o,hv,k⟩:=hq0
   refine ⟨_,(@Ae _ _ _ _ _ (@Ct _ _ _ _ _ _ _ _ (@L2.PW.pt _ _ _ (@Wg _ _ _ _ _ _ _ (@Cz _ _ _ _ (@Fk _ _ _ (@An _ _ _ _ _ _ _ _ _ _ _ c_is_pair hr (by decide) (by rfl) (@Aa _ _ _ _ _ (dv 0) Ac (by rfl)) (by decide) (by rfl) (by rfl)) (by intro _;rfl))) (@Wg _ _ _ _ _ _ _ (@Cz _ _ _ _ (@Fk _ _ _ (@An _ _ _ _ _ _ _ _ _ _ _ c_is_between hr (by decide) (by rfl) (@Aa _ _ _ _ _ (@Am _ _ _ _ _ _ _ Au (dv 0) Ab (fun _ _=>rfl)) (@Aa _ _ _ _ _ Ab (@Aa _ _ _ _ _ (N1 v_MOST_PART (by rfl)) Ac (by rfl)) (by rfl)) (by rfl)) (by decide) (by rfl) (by rfl)) (by intro _;rfl))) (@Ls _ _ _ _ (@Cz _ _ _ _ (@Fk _ _ _ (@An _ _ _ _ _ _ _ _ _ _ _ c_is_between hr (by decide) (by rfl) (@Aa _ _ _ _ _ (@Am _ _ _ _ _ _ _ Au (dv 0) Ab (fun _ _=>rfl)) (@Aa _ _ _ _ _ Ab (@Aa _ _ _ _ _ (@Am _ _ _ _ _ _ _ Au (dv 0) Ab (fun _ _=>rfl)) Ac (by rfl)) (by rfl)) (by rfl)) (by decide) (by rfl) (by rfl)) (by intro _;rfl))))))) (@Af _ _ _ (@At _ _ _ _ Gx)) A5) (@Af _ _ _ (@At _ _ _ _ (@Bo _ _ _ _ _ _ _ _ (@Iv _ hr.units) (@An _ _ _ _ _ _ _ _ _ _ _ c_fraction hr (by decide) (by rfl) (@Aa _ _ _ _ _ (@Am _ _ _ _ _ _ _ Au (dv 0) Ab (fun _ _=>rfl)) (@Aa _ _ _ _ _ (@Am _ _ _ _ _ _ _ Au (dv 0) Ab (fun _ _=>rfl)) Ac (by rfl)) (by rfl)) (by decide) (by rfl) (by rfl)) (dv 0) (@A1 _ _ (by decide) (by decide)))))),?_⟩
   rcases hv with ⟨t,a,b,rfl,e,ka,kb,rfl⟩|⟨h,rfl⟩
   case' inr=>exact ⟨false,h,⟨fun _=>⟨fun _=>k _ (Ai.refl _),fun h=>nb h⟩,fun h=>nb h⟩⟩
   refine ⟨true,.inl ⟨t,_,rfl,e,(show 2≤100 by decide),rfl⟩,⟨fun h=>nb h,fun _=>⟨_,e,kb,⟨fun h=>⟨fun _=>?_,fun h=>nb h⟩,fun h=>?_⟩⟩⟩⟩
   ·have h:btw b 1 9999=false:=by simpa using h
    have e:Qw (two a b)=false:=by
     unfold two
     split
     ·have:=Y9 h rfl
      exact decide_eq_false fun c=>this ⟨c.1,c.2.1⟩
     ·rfl
    rw [e] at k
    exact k _ (Ai.refl _)
   have h:btw b 1 9999=true:=by simpa using h
   obtain ⟨q,rfl,q1,q2⟩:=Aam h
   refine ⟨_,e,_,e,ka,⟨fun h=>?_,fun h=>?_⟩⟩
   ·have h:btw a 0 q=false:=by simpa using h
    have e:Qw (two a (.int q))=false:=by
     cases a with
     |int p=>
      have:=Y9 h rfl
      exact decide_eq_false fun c=>this ⟨c.2.2.1,c.2.2.2.1⟩
     |_=>rfl
    rw [e] at k
    exact k _ (Ai.refl _)
   have h':btw a 0 q=true:=by simpa using h
   clear h
   obtain ⟨p,ea,p1,p2⟩:=Aam h'
   subst ea
   refine ⟨_,e,_,e,⟨by omega,Dd (b:=9999) (by omega) (by omega) (Ax rfl)⟩,fun r H' s' f=>⟨qd (Sw p q,Qs p q),qd (p,q),.tup (Ed.of f.at') (.cons (.int _) (.cons (.int _) .nil)),.tup (Ed.of (s' _ _ e)) (.cons (.int _) (.cons (.int _) .nil)),rfl,rfl,?_⟩⟩
   have k:=k H' s'
   rw [show two (.int p) (.int q)=some (p,q) from rfl,Aeb ⟨q1,q2⟩ ⟨p1,p2⟩] at k
   rw [Agy]
   exact k
def thr (a:V)(o:Option (Int×Int)):Option (Int×Int×Int):=match a,o with
 |.int s,some (p,q)=>some (s,p,q)
 |_,_=>none
def L7 (H:Hp)(v:V)(o:Option (Int×Int×Int)):Prop:=(∃t a b so,v=.ref t∧H t=some (.tup [a,b])∧Kd H a∧Zp H b so∧o=thr a so)∨(V8 H v false∧o=none)
theorem L7.up {H H':Hp}{v:V}{o:Option (Int×Int×Int)}(s:Ai H H')(h:L7 H v o):L7 H' v o:=by
 rcases h with ⟨t,a,b,so,e,h1,h2,h3,h4⟩|⟨a,e⟩
 ·exact .inl ⟨t,a,b,so,e,s _ _ h1,h2.up s,h3.up s,h4⟩
 ·exact .inr ⟨a.up s,e⟩
def Fb:Option (Int×Int×Int)→Bool
 |some (s,p,q)=>decide (0≤s∧s≤1000000)&&Qw (some (p,q))
 |none=>false
def Od (K:PySem.W.Frag)(ns:List Int):Sp:=fun vs H Q _=>match vs with
 |[v]=>∃o,L7 H v o∧∀H',Ai H H'→Q (.bl (Fb o)) H'
 |_=>False
theorem Ws:Ao ["thing"] ["thing"] (Ag Ly):=⟨rfl,rfl,rfl,by decide +kernel,rfl,by decide +kernel,by decide +kernel⟩
theorem Wv (d:B0 K mg "is_row" Ly ["thing"])(er:Bh K mg c_LadderError c_Ledger c_NoBook c_NoFit c_NoGame c_NoNumber c_NoPlayer c_NoRow c_NoTable c_Rule)  (v_LAST_FROM:Wm mg "LAST_FROM" (.int (1000000)))(c_is_share:Bf P w K mg base "is_share" ["thing"] 3 (K2 K ns))(c_is_between:Bf P w K mg base "is_between" ["thing","least","most"] 2 (E5 K ns))(c_is_pair:Bf P w K mg base "is_pair" ["thing"] 1 (Ic K ns)):Bf P w K mg base "is_row" ["thing"] 4 (Od K ns):=by
 refine d.cal (k:=3) Ws (fun vs H Q E h=>?_) (fun f cdv A outer s H vs Q E hr h=>?_)
 ·match vs,h with
  |[v],_=>rfl
 ·match vs,h with
  | [v],hq0=>
   obtain ⟨o,hv,k⟩:=hq0
   refine ⟨_,(@Af _ _ _ (@At _ _ _ _ (@Kx _ _ _ _ _ _ _ (@An _ _ _ _ _ _ _ _ _ _ _ c_is_pair hr (by decide) (by rfl) (@Aa _ _ _ _ _ (dv 0) Ac (by rfl)) (by decide) (by rfl) (by rfl)) (@Kx _ _ _ _ _ _ _ (@An _ _ _ _ _ _ _ _ _ _ _ c_is_between hr (by decide) (by rfl) (@Aa _ _ _ _ _ (@Am _ _ _ _ _ _ _ Au (dv 0) Ab (fun _ _=>rfl)) (@Aa _ _ _ _ _ Ab (@Aa _ _ _ _ _ (N1 v_LAST_FROM (by rfl)) Ac (by rfl)) (by rfl)) (by rfl)) (by decide) (by rfl) (by rfl)) (@Ia _ _ _ _ _ (@An _ _ _ _ _ _ _ _ _ _ _ c_is_share hr (by decide) (by rfl) (@Aa _ _ _ _ _ (@Am _ _ _ _ _ _ _ Au (dv 0) Ab (fun _ _=>rfl)) Ac (by rfl)) (by decide) (by rfl) (by rfl))))))),?_⟩
   rcases hv with ⟨t,a,b,so,rfl,e,ka,sb,rfl⟩|⟨h,rfl⟩
   case' inr=>exact ⟨false,h,⟨fun h=>nb h,fun _=>k _ (Ai.refl _)⟩⟩
   refine ⟨true,.inl ⟨t,_,rfl,e,(show 2≤100 by decide),rfl⟩,⟨fun _=>⟨_,e,ka,⟨fun h=>?_,fun h=>?_⟩⟩,fun h=>nb h⟩⟩
   rotate_left
   ·have h:btw a 0 1000000=false:=h
    have e:Fb (thr a so)=false:=by
     unfold thr
     split
     ·have:=Y9 h rfl
      show (decide _&&_)=false
      rw [decide_eq_false this]
      rfl
     ·rfl
    rw [e] at k
    exact k _ (Ai.refl _)
   have h:btw a 0 1000000=true:=h
   obtain ⟨s',rfl,q1,q2⟩:=Aam h
   refine ⟨_,e,so,sb,fun H' s1=>?_⟩
   have k:=k H' s1
   have e:Fb (thr (.int s') so)=Qw so:=by
    unfold thr
    cases so with
    |none=>rfl
    |some pq=>
     obtain ⟨p,q⟩:=pq
     show (decide (0≤s'∧s'≤1000000)&&Qw (some (p,q)))=_
     rw [decide_eq_true ⟨q1,q2⟩,Bool.true_and]
   rw [e] at k
   exact k
def Es (H:Hp)(v:V)(r:Int×Int×Int):Prop:=∃t u,v=.ref t∧H t=some (.tup [.int r.1,.ref u])∧H u=some (.tup [.int r.2.1,.int r.2.2])
theorem Dv (v:V)(r:Int×Int×Int)(H H':Hp)(k:Kt H H')(h:Es H v r):Es H' v r:=by
 obtain ⟨t,u,e,h1,h2⟩:=h
 exact ⟨t,u,e,k _ _ h1,k _ _ h2⟩
theorem L7.ro {H:Hp}{v:V}{r:Int×Int×Int}(h:L7 H v (some r)):Es H v r:=by
 rcases h with ⟨t,a,b,so,e,h1,h2,h3,h4⟩|⟨_,e⟩
 ·unfold thr at h4
  split at h4
  ·rename_i s p q
   cases h4
   rcases h3 with ⟨u,x,y,e',g1,_,_,g4⟩|⟨_,e'⟩
   ·unfold two at g4
    split at g4
    ·cases g4
     subst e'
     exact ⟨t,u,e,h1,g1⟩
    ·cases g4
   ·cases e'
  ·cases h4
 ·cases e
theorem Es.rw {H:Hp}{v:V}{r:Int×Int×Int}(h:Es H v r):L7 H v (some r):=by
 obtain ⟨t,u,e,h1,h2⟩:=h
 exact .inl ⟨t,_,_,some (r.2.1,r.2.2),e,h1,trivial,.inl ⟨u,_,_,rfl,h2,trivial,trivial,rfl⟩,rfl⟩
def goR (a b:Int×Int×Int):Bool:=decide (a.1<b.1)&&decide (¬b.2.1*a.2.2<a.2.1*b.2.2)
def G0 (K:PySem.W.Frag)(ns:List Int):Sp:=fun vs H Q _=>match vs with
 |[.ref a,.ref b]=>∃p q p' q':Int,(H a=some (.tup [.int p,.int q])∧H b=some (.tup [.int p',.int q']))∧(Bd 1900 p∧Bd 1900 q∧Bd 1900 p'∧Bd 1900 q')∧Q (.bl (decide (p*q'<p'*q))) H
 |_=>False
theorem Xu:Ao ["one","other"] ["one","other"] (Ag Pu):=⟨rfl,rfl,rfl,by decide +kernel,rfl,by decide +kernel,by decide +kernel⟩
theorem Y5 (d:B0 K mg "under" Pu ["one","other"])(er:Bh K mg c_LadderError c_Ledger c_NoBook c_NoFit c_NoGame c_NoNumber c_NoPlayer c_NoRow c_NoTable c_Rule)   :Bf P w K mg base "under" ["one","other"] 1 (G0 K ns):=by
 refine d.cal (k:=0) Xu (fun vs H Q E h=>?_) (fun f cdv A outer s H vs Q E hr h=>?_)
 ·match vs,h with
  |[.ref a,.ref b],_=>rfl
 ·match vs,h with
  |[.ref a,.ref b],hq0=>
   obtain ⟨p,q,p',q',⟨ha,hb⟩,⟨b1,b2,b3,b4⟩,k⟩:=hq0
   refine ⟨_,(@Af _ _ _ (@At _ _ _ _ (@Bo _ _ _ _ _ _ _ _ Z3 (@Aj _ _ _ _ _ _ _ _ Cw (@Am _ _ _ _ _ _ _ Au (dv 0) Ab (fun _ _=>rfl)) (@Am _ _ _ _ _ _ _ Au (dv 1) Ab (fun _ _=>rfl))) (@Aj _ _ _ _ _ _ _ _ Cw (@Am _ _ _ _ _ _ _ Au (dv 1) Ab (fun _ _=>rfl)) (@Am _ _ _ _ _ _ _ Au (dv 0) Ab (fun _ _=>rfl))) (@A1 _ _ (by decide) (by decide))))),?_⟩
   exact ⟨_,ha,_,hb,Xl b1 b4 (by decide) (by decide),_,hb,_,ha,Xl b3 b2 (by decide) (by decide),k⟩
def Lo (K:PySem.W.Frag)(ns:List Int):Sp:=fun vs H Q _=>match vs with
 |[v,u]=>∃a b,(Es H v a∧Es H u b)∧(Bd 20 a.2.1∧Bd 20 a.2.2∧Bd 20 b.2.1∧Bd 20 b.2.2)∧Q (.bl (goR a b)) H
 |_=>False
theorem Ul:Ao ["row","later"] ["row","later"] (Ag Kb):=⟨rfl,rfl,rfl,by decide +kernel,rfl,by decide +kernel,by decide +kernel⟩
theorem Ub (d:B0 K mg "goes_on" Kb ["row","later"])(er:Bh K mg c_LadderError c_Ledger c_NoBook c_NoFit c_NoGame c_NoNumber c_NoPlayer c_NoRow c_NoTable c_Rule)   (c_under:Bf P w K mg base "under" ["one","other"] 1 (G0 K ns)):Bf P w K mg base "goes_on" ["row","later"] 2 (Lo K ns):=by
 refine d.cal (k:=1) Ul (fun vs H Q E h=>?_) (fun f cdv A outer s H vs Q E hr h=>?_)
 ·match vs,h with
  |[v,u],_=>rfl
 ·match vs,h with
  | [v,u],hq0=>
   obtain ⟨a,b,⟨⟨t,x,ev,h1,h2⟩,⟨t',x',eu,h1',h2'⟩⟩,⟨b1,b2,b3,b4⟩,k⟩:=hq0
   refine ⟨_,(@Af _ _ _ (@At _ _ _ _ (@Kx _ _ _ _ _ _ _ (@Bo _ _ _ _ _ _ _ _ Z3 (@Am _ _ _ _ _ _ _ Au (dv 0) Ab (fun _ _=>rfl)) (@Am _ _ _ _ _ _ _ Au (dv 1) Ab (fun _ _=>rfl)) (@A1 _ _ (by decide) (by decide))) (@Ia _ _ _ _ _ (@Adi _ _ _ _ (@An _ _ _ _ _ _ _ _ _ _ _ c_under hr (by decide) (by rfl) (@Aa _ _ _ _ _ (@Am _ _ _ _ _ _ _ Au (dv 1) Ab (fun _ _=>rfl)) (@Aa _ _ _ _ _ (@Am _ _ _ _ _ _ _ Au (dv 0) Ab (fun _ _=>rfl)) Ac (by rfl)) (by rfl)) (by decide) (by rfl) (by rfl))))))),?_⟩
   subst ev
   subst eu
   refine ⟨_,h1,_,h1',⟨fun h=>⟨_,h1',_,h1,_,_,_,_,⟨h2',h2⟩,⟨b3.mono (by decide),b4.mono (by decide),b1.mono (by decide),b2.mono (by decide)⟩,?_⟩,fun h=>?_⟩⟩
   ·have h:decide (a.1<b.1)=true:=h
    have e:goR a b=!decide (b.2.1*a.2.2<a.2.1*b.2.2):=by
     unfold goR
     rw [h,Bool.true_and,decide_not]
    rw [e] at k
    exact k
   ·have h:decide (a.1<b.1)=false:=h
    have e:goR a b=false:=by
     unfold goR
     rw [h,Bool.false_and]
    rw [e] at k
    exact k
def chn:List (Int×Int×Int)→Bool
 |a::b::l=>goR a b&&chn (b::l)
 |_=>true
def Jj (rows:List (Int×Int×Int)):Prop:=(1≤rows.length∧rows.length≤10)∧(∀r∈rows,Fb (some r)=true)∧rows[0]? =some (0,1,2)∧chn rows=true
def Aho (os:List (Option (Int×Int×Int))):Prop:=¬∃rows,os=rows.map some∧Jj rows
def rd3 (r:Int×Int×Int):PyData:=.tuple [.int r.1,.tuple [.int r.2.1,.int r.2.2]]
theorem Ahj {K:PySem.W.Frag}{H:Hp}{v:V}{r:Int×Int×Int}(h:Es H v r):Rp K H v (rd3 r):=by
 obtain ⟨t,u,e,h1,h2⟩:=h
 subst e
 exact .tup (Ed.of h1) (.cons (.int _) (.cons (.tup (Ed.of h2) (.cons (.int _) (.cons (.int _) .nil))) .nil))
theorem Acw (p q:Int×Int×Int):PyData.eqv (rd3 p) (rd3 q)=decide (p=q):=by
 show ((p.1==q.1)&&(((p.2.1==q.2.1)&&((p.2.2==q.2.2)&&true))&&true))=_
 obtain ⟨a,b,c⟩:=p
 obtain ⟨a',b',c'⟩:=q
 by_cases h1:a=a'<;>by_cases h2:b=b'<;>by_cases h3:c=c'<;>simp [h1,h2,h3]
def NL (H:Hp):V→Prop
 |.int _=>True
 |.bl _=>True
 |.non=>True
 |.str _=>True
 |.ref p=>∃u t,H p=some u∧Acv u=some t∧Ym t "list"=some false
 |_=>False
def Ak8 (H:Hp)(v:V)(os:Option (List (Option (Int×Int×Int)))):Prop:=(∃l vs os',v=.ref l∧H l=some (.lst vs)∧vs.length≤100∧Aw (L7 H) vs os'∧os=some os')∨(NL H v∧os=none)
theorem Xf {β:Type}{K:PySem.W.Frag}{a b:Addr}{xs ys:List V}{ms:List β}{g:TG}{te:TE}{k:Nat}{js:List Nat}{σ:L2.St}{H1:Hp}{Q:VK}(M:Hp→V→V→β→Prop)(upM:∀v u m H H',Kt H H'→M H v u m→M H' v u m)(R:Hp→β→V→Prop)(up:∀m y H H',Kt H H'→R H m y→R H' m y)
  (hz:ms.length≤1000) (hx:A0 K H1 a xs) (hy:A0 K H1 b ys) (lx:ms.length≤xs.length) (ly:ys.length=ms.length) (hm:∀(i:Nat) x y m,xs[i]? =some x→ys[i]? =some y→ms[i]? =some m→M H1 x y m)
  (hs:∀x y m t H2,M H2 x y m→m∈ms→Ai H1 H2→H2 t=some (.tup [x,y])→∀P:VK,(∀y H3,Ai H2 H3→R H3 m y→P y H3)→g (.ref t) (List.replicate k none++capσ js σ) H2 fun σ2 H3=>σ2.drop k=capσ js σ∧te σ2 H3 P)
  (hq:∀D H' zs,Ai H1 H'→H1 D=none→H' D=some (.lst zs)→Aw (R H') ms zs→Q (.ref D) H'):Kq (Itz true true K a b) g te k js σ H1 Q:=by
 unfold Kq
 intro D hD
 refine ⟨fun i m H=>m=ms.length-i∧i≤ms.length∧Ai H1 H∧∃zs,H D=some (.lst zs)∧Aw (R H) (ms.take i) zs,⟨ms.length,by simp,Nat.zero_le _,Al hD,[],Ad,.nil⟩,?_⟩
 rintro i m H ⟨rfl,hi,sm,zs,hH,ar⟩
 have sq1:Wp true K H a xs:=sm.seq hx
 have sq2:Wp true K H b ys:=sm.seq hy
 by_cases hlt:i<ms.length
 ·have e1:xs[i]? =some (xs[i]'(by omega)):=List.getElem?_eq_getElem _
  have e2:ys[i]? =some (ys[i]'(by omega)):=List.getElem?_eq_getElem _
  have e3:ms[i]? =some ms[i]:=List.getElem?_eq_getElem _
  refine .inr ⟨⟨xs,ys,_,_,sq1,sq2,e1,e2⟩,fun v H' yl=>?_⟩
  obtain ⟨t,x,y,rfl,ht,rfl,y1,y2⟩:=yl
  have st:Ai H (upd H t (.tup [x,y])):=Al ht
  have et:upd H t (.tup [x,y]) t=some (.tup [x,y]):=Ad
  generalize upd H t (.tup [x,y])=H2 at st et
  have hH:=st _ _ hH
  have s2:=sm.trans st
  have hM:=hm i x y _ (y1 xs sq1) (y2 ys sq2) e3
  refine hs x y _ t H2 (upM _ _ _ _ _ (A6 s2) hM) (List.mem_of_getElem? e3) s2 et _ fun u H3 s3 r3=>⟨zs,s3 _ _ hH,?_,ms.length-(i+1),by omega,rfl,hlt,Bs (s2.trans s3) hD,zs++[u],Ad,?_⟩
  ·rw [←ar.len,List.length_take]
   exact Nat.lt_of_le_of_lt (Nat.min_le_left _ _) (Nat.lt_of_lt_of_le hlt (Nat.le_trans hz (by decide)))
  ·have kt:Kt H3 (upd H3 D (.lst (zs++[u]))):=E6 (s3 _ _ hH)
   rw [List.take_add_one,e3]
   exact (ar.imp fun v y r=>up v y _ _ ((A6 (st.trans s3)).trans kt) r).snoc (up _ _ _ _ kt r3)
 ·have e:i=ms.length:=by omega
  subst e
  rw [List.take_length] at ar
  exact .inl ⟨⟨xs,ys,sq1,sq2,.inr (by omega)⟩,hq D _ zs sm hD hH ar⟩
theorem Z7 {α:Type}{f:α→Bool}:∀{l:List α} {ys:List V},Aw (fun o y=>y=V.bl (f o)) l ys→ys=(l.map f).map V.bl
 |_,_,.nil=>rfl
 |_,_,.cons h t=>by rw [h,Z7 t];rfl
theorem Sn:∀{os:List (Option (Int×Int×Int))},(os.map Fb).all id=true→∃rows:List (Int×Int×Int),os=rows.map some∧∀r∈rows,Fb (some r)=true
 |[],_=>⟨[],rfl,fun r h=>absurd h (by simp)⟩
 | o::os,h=>by
  rw [List.map_cons,List.all_cons,Bool.and_eq_true] at h
  obtain ⟨rows,e,hr⟩:=Sn h.2
  cases o with
  |none=>exact nb h.1
  |some r=>
   refine ⟨r::rows,by rw [e];rfl,fun x hx=>?_⟩
   rcases List.mem_cons.mp hx with rfl|hx
   ·exact h.1
   ·exact hr x hx
theorem Aem {rows:List (Int×Int×Int)}(h:∀r∈rows,Fb (some r)=true):((rows.map some).map Fb).all id=true:=by
 rw [List.all_eq_true]
 intro b hb
 obtain ⟨o,ho,rfl⟩:=List.mem_map.mp hb
 obtain ⟨r,hr,rfl⟩:=List.mem_map.mp ho
 exact h r hr
theorem Im {α:Type}:∀{l m:List α},l.map some=m.map some→l=m
 |[],[],_=>rfl
 |[],_::_,h=>by simp at h
 |_::_,[],h=>by simp at h
 |a::l,b::m,h=>by
  rw [List.map_cons,List.map_cons] at h
  injection h with h1 h2
  cases h1
  rw [Im h2]
theorem Ado {H:Hp}:∀{vs:List V} {rows:List (Int×Int×Int)},Aw (L7 H) vs (rows.map some)→Aw (Es H) vs rows
 |[],[],_=>.nil
 |_::_,[],h=>by cases h
 |[],_::_,h=>by cases h
 |v::vs,r::rows,.cons h t=>.cons h.ro (Ado t)
theorem Ada {H:Hp}:∀{vs:List V} {rows:List (Int×Int×Int)},Aw (Es H) vs rows→Aw (L7 H) vs (rows.map some)
 |_,_,.nil=>.nil
 |_,_,.cons h t=>.cons h.rw (Ada t)
theorem U9:∀(rows:List (Int×Int×Int)),chn rows=((rows.zip (rows.drop 1)).map fun m=>goR m.1 m.2).all id
 |[]=>rfl
 |[_]=>rfl
 |a::b::l=>by
  show (goR a b&&chn (b::l))=_
  rw [U9 (b::l)]
  rfl
theorem Xo {xs:List V}{j:Nat}(h:j≤xs.length):Dn xs (some (j:Int)) none=xs.drop j:=by
 unfold Dn
 rw [HT.sIx_none,HT.sIx_nat,Nat.min_eq_left h]
 apply List.take_of_length_le
 rw [List.length_drop]
 exact Nat.le_refl _
theorem Uk {r:Int×Int×Int}(h:Fb (some r)=true):(0≤r.1∧r.1≤1000000)∧(1≤r.2.2∧r.2.2≤9999∧0≤r.2.1∧r.2.1≤r.2.2∧Int.gcd r.2.1 r.2.2=1):=by
 obtain ⟨s,p,q⟩:=r
 have h:(decide (0≤s∧s≤1000000)&&Qw (some (p,q)))=true:=h
 rw [Bool.and_eq_true] at h
 exact ⟨of_decide_eq_true h.1,of_decide_eq_true h.2⟩
def K3 (K:PySem.W.Frag)(ns:List Int):Sp:=fun vs H Q E=>match vs with
 |[v]=>∃os,Ak8 H v os∧((∀os',os=some os'→Aho os')→∀H',Ai H H'→ExN K "NoTable" E H')∧(∀rows vs l,v=.ref l→H l=some (.lst vs)→os=some (rows.map some)→Jj rows→∀D H',Ai H H'→H D=none→H' D=some (.lst vs)→Q (.ref D) H')
 |_=>False
theorem Sb:Ao ["rows"] ["rows"] (Ag Hx):=⟨rfl,rfl,rfl,by decide +kernel,rfl,by decide +kernel,by decide +kernel⟩
theorem Rr (d:B0 K mg "table_of" Hx ["rows"])(er:Bh K mg c_LadderError c_Ledger c_NoBook c_NoFit c_NoGame c_NoNumber c_NoPlayer c_NoRow c_NoTable c_Rule)(n_list:mg "list"=none)(n_all:mg "all"=none)(n_zip:mg "zip"=none)(n_len:mg "len"=none)(n_isinstance:mg "isinstance"=none)(v_FIRST_ROW:Wm mg "FIRST_ROW" (.ref a_FIRST_ROW))(w_FIRST_ROW:Zl K a_FIRST_ROW [.int (0),.ref b_FIRST_ROW_1])(w_FIRST_ROW_1:Zl K b_FIRST_ROW_1 [.int (1),.int (2)])(v_MOST_ROWS:Wm mg "MOST_ROWS" (.int (10)))(c_goes_on:Bf P w K mg base "goes_on" ["row","later"] 2 (Lo K ns))(c_is_row:Bf P w K mg base "is_row" ["thing"] 4 (Od K ns)):Bf P w K mg base "table_of" ["rows"] 5 (K3 K ns):=by
 refine d.calX (k:=4) Sb (fun vs H Q E h=>?_) (fun f cdv A outer s H vs Q E hr h=>?_)
 ·match vs,h with
  |[v],_=>rfl
 ·match vs,h with
  | [v],hq0=>
   obtain ⟨os,hv,ex,k⟩:=hq0
   refine ⟨_,(@Ae _ _ _ _ _ (@Ct _ _ _ _ _ _ _ _ (@L2.PW.pt _ _ _ (@Wg _ _ _ _ _ _ _ (@Cz _ _ _ _ (@Fk _ _ _ (@Aq _ _ _ _ _ _ _ _ _ R5 (by rfl) n_isinstance (by decide +kernel) (@Aa _ _ _ _ _ (dv 0) (@Aa _ _ _ _ _ (W3 "list" (by rfl) n_list (by decide +kernel)) Ac (by rfl)) (by rfl)) (by decide) (by decide) (by rfl) (by rfl)) (by intro _;rfl))) (@Ls _ _ _ _ (@Cz _ _ _ _ (@Ace _ _ _ _ _ _ _ _ _ _ _ _ Abb Abb Ab (@Aq _ _ _ _ _ _ _ _ _ Cm (by rfl) n_len (by decide +kernel) (@Aa _ _ _ _ _ (dv 0) Ac (by rfl)) (by decide) (by decide) (by rfl) (by rfl)) (N1 v_MOST_ROWS (by rfl)) (by with_unfolding_all rfl)))))) (@Af _ _ _ (@Dm _ _ _ _ _ _ _ _ _ _ _ _ _ _ _ _ _ _ _ _ _ _ _ er.b_NoTable er.x_NoTable (by rfl) (by decide))) A5) (@Ae _ _ _ _ _ (@Ct _ _ _ _ _ _ _ _ (@Cz _ _ _ _ (@Fk _ _ _ (@Aq _ _ _ _ _ _ _ _ _ (@Adl _ rfl) (by rfl) n_all (by decide +kernel) (@Aa _ _ _ _ _ (@Fw _ _ _ _ _ _ _ _ _ _ ["row"] [] [] rfl (@Db _ _ _ _ (dv 0)) (fun C s H fp=>(@Bb _ _ (0) _ (show List.Nodup [("row":Str)] by decide +kernel) rfl (by trivial) (by trivial))) (fun C s H fp=>(@An _ _ _ _ _ _ _ _ _ _ _ c_is_row hr (by decide) (by rfl) (@Aa _ _ _ _ _ (dv 0) Ac (by rfl)) (by decide) (by rfl) (by rfl))) rfl rfl (by decide +kernel) (by decide +kernel) (by rfl) True.intro True.intro (by intro _;rfl)) Ac (by rfl)) (by decide) (by decide) (by rfl) (by rfl)) (by intro _;rfl))) (@Af _ _ _ (@Dm _ _ _ _ _ _ _ _ _ _ _ _ _ _ _ _ _ _ _ _ _ _ _ er.b_NoTable er.x_NoTable (by rfl) (by decide))) A5) (@Ae _ _ _ _ _ (@Ct _ _ _ _ _ _ _ _ (@Bw _ _ _ _ _ _ _ _ (@Adw _ hr.units) (@Am _ _ _ _ _ _ _ Cc (dv 0) Ab (fun _ _=>rfl)) (N1 v_FIRST_ROW (by rfl)) (@A1 _ _ (by decide) (by decide))) (@Af _ _ _ (@Dm _ _ _ _ _ _ _ _ _ _ _ _ _ _ _ _ _ _ _ _ _ _ _ er.b_NoTable er.x_NoTable (by rfl) (by decide))) A5) (@Ae _ _ _ _ _ (@Ct _ _ _ _ _ _ _ _ (@Cz _ _ _ _ (@Fk _ _ _ (@Aq _ _ _ _ _ _ _ _ _ (@Adl _ rfl) (by rfl) n_all (by decide +kernel) (@Aa _ _ _ _ _ (@Fw _ _ _ _ _ _ _ _ _ _ ["row","later"] [] [] rfl (@Agl _ true true _ _ _ _ _ _ _ _ (by rfl) n_zip (@Aa _ _ _ _ _ (dv 0) (@Aa _ _ _ _ _ (@Cg _ _ _ _ _ _ _ _ _ _ J1 (dv 0) (B5 Ab) Fz) Ac (by rfl)) (by rfl)) (by rfl) (by rfl)) (fun C s H fp=>(show PG _ _ (Ad6 K 2 _) from T8 rfl (Fa (Bb (i:=0) (show List.Nodup [("row":Str),("later":Str)] by decide +kernel) rfl (by trivial)) (Fa (Bb (i:=1) (show List.Nodup [("row":Str),("later":Str)] by decide +kernel) rfl (by trivial)) Pm)))) (fun C s H fp=>(@An _ _ _ _ _ _ _ _ _ _ _ c_goes_on hr (by decide) (by rfl) (@Aa _ _ _ _ _ (dv 0) (@Aa _ _ _ _ _ (dv 1) Ac (by rfl)) (by rfl)) (by decide) (by rfl) (by rfl))) rfl rfl (by decide +kernel) (by decide +kernel) (by rfl) True.intro True.intro (by intro _;rfl)) Ac (by rfl)) (by decide) (by decide) (by rfl) (by rfl)) (by intro _;rfl))) (@Af _ _ _ (@Dm _ _ _ _ _ _ _ _ _ _ _ _ _ _ _ _ _ _ _ _ _ _ _ er.b_NoTable er.x_NoTable (by rfl) (by decide))) A5) (@Af _ _ _ (@At _ _ _ _ (@Fd _ _ _ _ _ _ _ _ _ O8 (by rfl) n_list (by decide +kernel) (@Aa _ _ _ _ _ (dv 0) Ac (by rfl)) (by decide) (by decide) (by rfl) (by rfl)))))))),?_⟩
   rcases hv with ⟨l,vs',os',rfl,e,l100,al,rfl⟩|⟨nl,rfl⟩
   case' inr=>
    have ex:=ex (fun os' h=>by cases h)
    match v,nl with
    |.int _,_=>exact ⟨false,rfl,⟨fun _=>⟨fun _=>ex _ (Ai.refl _) _ er.y_NoTable,fun h=>nb h⟩,fun h=>nb h⟩⟩
    |.bl _,_=>exact ⟨false,rfl,⟨fun _=>⟨fun _=>ex _ (Ai.refl _) _ er.y_NoTable,fun h=>nb h⟩,fun h=>nb h⟩⟩
    |.non,_=>exact ⟨false,rfl,⟨fun _=>⟨fun _=>ex _ (Ai.refl _) _ er.y_NoTable,fun h=>nb h⟩,fun h=>nb h⟩⟩
    |.str _,_=>exact ⟨false,rfl,⟨fun _=>⟨fun _=>ex _ (Ai.refl _) _ er.y_NoTable,fun h=>nb h⟩,fun h=>nb h⟩⟩
    |.ref _,⟨u,t,h1,h2,h3⟩=>exact ⟨u,false,t,h1,h2,h3,⟨fun _=>⟨fun _=>ex _ (Ai.refl _) _ er.y_NoTable,fun h=>nb h⟩,fun h=>nb h⟩⟩
    |.flt _,h=>exact h.elim
    |.byt _,h=>exact h.elim
    |.ty _,h=>exact h.elim
   have ex:Aho os'→∀H',Ai H H'→ExN K "NoTable" E H':=fun h=>ex fun _ z=>by cases z;exact h
   have ll:=al.len
   refine ⟨_,true,_,e,rfl,rfl,⟨fun h=>nb h,fun _=>⟨_,.inl (A0.of e),?_⟩⟩⟩
   have goB:¬(1≤vs'.length∧vs'.length≤10)→∀H',Ai H H'→ExN K "NoTable" E H':=fun c=>ex fun ⟨rows,er,g⟩=>c (by
    have h1:=g.1
    have h2:os'.length=rows.length:=by rw [er,List.length_map]
    omega)
   refine ⟨fun h1=>⟨fun h2=>?_,fun h2=>?_⟩,fun h1=>⟨fun _=>?_,fun h=>nb h⟩⟩
   ·have h2:¬(vs'.length:Int)≤10:=by simpa using h2
    exact goB (fun c=>by omega) _ (Ai.refl _) _ er.y_NoTable
   rotate_left
   ·have h1:¬(1:Int)≤(vs'.length:Int):=of_decide_eq_false h1
    exact goB (fun c=>by omega) _ (Ai.refl _) _ er.y_NoTable
   have h1:(1:Int)≤(vs'.length:Int):=of_decide_eq_true h1
   have h2:(vs'.length:Int)≤10:=by simpa using h2
   clear goB
   refine ⟨l,rfl,⟨_,A0.of e⟩,Gy (fun _ v o=>L7 H v o) (fun _ _ _ _ _ h=>h) (fun _ o y=>y=V.bl (Fb o)) (fun _ _ _ _ _ h=>h) (by omega) (A0.of e) al ?_ ?_⟩
   ·intro v o H1 hM _ s1 P hP
    exact ⟨rfl,o,hM.up s1,fun H2 s2=>hP _ _ s2 rfl⟩
   intro D1 H1 ys s1 _ e1 a1
   have y1:=Z7 a1
   refine ⟨os'.map Fb,by rw [←y1];exact A0.of e1,⟨fun h=>?_,fun h=>?_⟩⟩
   ·have h:(os'.map Fb).all id=false:=by simpa using h
    refine ex (fun ⟨rows,er,g⟩=>?_) _ s1 _ er.y_NoTable
    rw [er,Aem g.2.1] at h
    exact nb h
   have h:(os'.map Fb).all id=true:=by simpa using h
   obtain ⟨rows,rfl,hr⟩:=Sn h
   have ro:=Ado al
   have ro1:Aw (Es H1) vs' rows:=ro.imp fun v r h=>Dv v r _ _ (A6 s1) h
   have lr:vs'.length=rows.length:=ro.len
   obtain ⟨v0,hv0⟩:∃v0,vs'[0]? =some v0:=⟨_,List.getElem?_eq_getElem (by omega)⟩
   obtain ⟨r0,hr0,ro0⟩:=ro1.get hv0
   refine ⟨_,_,A0.of (s1 _ _ e),Cn hv0,_,_,Ahj ro0,.tup (w_FIRST_ROW.sq H1) (.cons (.int _) (.cons (.tup (w_FIRST_ROW_1.sq H1) (.cons (.int _) (.cons (.int _) .nil))) .nil)),rfl,rfl,?_⟩
   have ed:PyData.eqv (rd3 r0) (.tuple [.int 0,.tuple [.int 1,.int 2]])=decide (r0=(0,1,2)):=Acw r0 (0,1,2)
   rw [ed]
   have bad:¬Jj rows→∀H',Ai H H'→ExN K "NoTable" E H':=fun c=>ex fun ⟨rows',er,g⟩=>c (Im er▸g)
   refine ⟨fun h=>?_,fun h=>?_⟩
   ·have h:¬r0=(0,1,2):=by simpa using h
    refine bad (fun g=>h ?_) _ s1 _ er.y_NoTable
    have:=g.2.2.1
    rw [hr0] at this
    exact Option.some.inj this
   have h:r0=(0,1,2):=by simpa using h
   subst h
   refine ⟨_,rfl,_,A0.of (s1 _ _ e),fun C H2 s2 e2=>?_⟩
   have e2:H2 C=some (.lst (vs'.drop 1)):=e2.trans (congrArg (fun l=>some (HO.lst l)) (Xo (j:=1) (by omega)))
   have s12:=s1.trans s2
   have ro2:Aw (Es H2) vs' rows:=ro.imp fun v r h=>Dv v r _ _ (A6 s12) h
   have lz:(rows.zip (rows.drop 1)).length=rows.length-1:=by rw [List.length_zip,List.length_drop];omega
   refine ⟨⟨_,A0.of (s12 _ _ e)⟩,⟨_,A0.of e2⟩,Xf (ms:=rows.zip (rows.drop 1)) (fun H x y m=>Es H x m.1∧Es H y m.2) (fun x y m H H' kt h=>⟨Dv _ _ _ _ kt h.1,Dv _ _ _ _ kt h.2⟩) (fun _ m y=>y=V.bl (goR m.1 m.2)) (fun _ _ _ _ _ h=>h) (by omega) (A0.of (s12 _ _ e)) (A0.of e2) (by omega) (by rw [List.length_drop];omega) ?_ ?_ ?_⟩
   ·intro i x y m hx hy hm
    obtain ⟨m1,m2⟩:=List.getElem?_zip_eq_some.mp hm
    obtain ⟨a,ha,g1⟩:=ro2.get hx
    rw [List.getElem?_drop] at hy m2
    obtain ⟨b,hb,g2⟩:=ro2.get hy
    rw [ha] at m1
    rw [hb] at m2
    cases m1
    cases m2
    exact ⟨g1,g2⟩
   ·intro x y m t H3 hM hm s3 et P hP
    have q1:=Uk (hr m.1 (List.of_mem_zip hm).1)
    have q2:=Uk (hr m.2 (List.mem_of_mem_drop (List.of_mem_zip hm).2))
    have bd:∀{i:Int},0≤i→i≤9999→Bd 20 i:=fun a b=>Dd (b:=9999) (by omega) (by omega) (Ax rfl)
    exact ⟨t,_,rfl,Ed.of et,rfl,_,_,rfl,_,_,rfl,rfl,rfl,m.1,m.2,hM,⟨bd (by omega) (by omega),bd (by omega) (by omega),bd (by omega) (by omega),bd (by omega) (by omega)⟩,hP _ _ (Ai.refl _) rfl⟩
   intro D3 H3 zs s3 _ e3 a3
   have y3:=Z7 a3
   have s13:=s12.trans s3
   refine ⟨(rows.zip (rows.drop 1)).map fun m=>goR m.1 m.2,by rw [←y3];exact A0.of e3,?_⟩
   rw [←U9]
   refine ⟨fun h=>?_,fun h=>?_⟩
   ·have h:chn rows=false:=by simpa using h
    refine bad (fun g=>?_) _ s13 _ er.y_NoTable
    rw [g.2.2.2] at h
    exact nb h
   have h:chn rows=true:=by simpa using h
   refine ⟨_,.inl (A0.of (s13 _ _ e)),fun D hD=>?_⟩
   exact k rows vs' l rfl e rfl ⟨⟨by omega,by omega⟩,hr,hr0,h⟩ D _ (s13.trans (Al hD)) (Bt s13 hD) Ad
abbrev Rw:=Int×Q2
structure Akx (r:Rw):Prop where
 f0:0≤r.1
 f1:r.1≤2000000
 t0:0≤r.2.1
 tb:r.2.1≤r.2.2
 b0:0<r.2.2
 b1:r.2.2≤9999
 g:Int.gcd r.2.1 r.2.2=1
structure Tb (rows:List Rw):Prop where
 hd:∃r rs,rows=r::rs∧r.1=0
 ok:∀r∈rows,Akx r
 len:rows.length≤10
def TbA (K:PySem.W.Frag)(H:Hp)(L:Addr)(rows:List Rw):Prop:=∃vs,A0 K H L vs∧Aw (Es H) vs rows
theorem TbA.up {K:PySem.W.Frag}{H H':Hp}{L:Addr}{rows:List Rw}(s:Ai H H')(h:TbA K H L rows):TbA K H' L rows:=by
 obtain ⟨vs,h1,h2⟩:=h
 exact ⟨vs,s.seq h1,h2.imp fun v g r=>Dv v g _ _ (A6 s) r⟩
def TbL (H:Hp)(L:Addr)(rows:List Rw):Prop:=∃vs,H L=some (.lst vs)∧Aw (Es H) vs rows
theorem TbL.at {K:PySem.W.Frag}{H:Hp}{L:Addr}{rows:List Rw}(h:TbL H L rows):TbA K H L rows:=by
 obtain ⟨vs,h1,h2⟩:=h
 exact ⟨vs,A0.of h1,h2⟩
def Lz (t b:Int)(rows:List Rw)(x:Q2):Q2:=rows.foldl (fun x r=>if r.1*b≤t then r.2 else x) x
theorem Kh {t b:Int}{r:Rw}{rows:List Rw}{x:Q2}:Lz t b (r::rows) x=Lz t b rows (if r.1*b≤t then r.2 else x):=rfl
theorem Nu (t b:Int):∀(rows:List Rw) (x:Q2),Lz t b rows x=(((rows.filter fun r=>decide (r.1*b≤t)).getLast?).map (·.2)).getD x
 |[],x=>rfl
 | r::rs,x=>by
  rw [Kh,Nu t b rs]
  by_cases h:r.1*b≤t
  ·rw [if_pos h,List.filter_cons_of_pos (by simpa using h),List.getLast?_cons]
   cases (rs.filter fun r=>decide (r.1*b≤t)).getLast?<;>rfl
  ·rw [if_neg h,List.filter_cons_of_neg (by simpa using h)]
theorem Rj (t b:Int):∀(rows:List Rw) (x:Q2),Lz t b rows x=x∨∃r∈rows,Lz t b rows x=r.2
 |[],x=>.inl rfl
 | r::rs,x=>by
  rw [Kh]
  rcases Rj t b rs (if r.1*b≤t then r.2 else x) with e|⟨r',h,e⟩
  ·rw [e]
   by_cases h:r.1*b≤t
   ·rw [if_pos h]
    exact .inr ⟨r,List.mem_cons_self ..,rfl⟩
   ·rw [if_neg h]
    exact .inl rfl
  ·exact .inr ⟨r',List.mem_cons_of_mem _ h,e⟩
theorem Po {t b:Int}{rows:List Rw}(h:Tb rows)(ht:0≤t)(x:Q2):∃r∈rows,Lz t b rows x=r.2:=by
 obtain ⟨r,rs,e0,e⟩:=h.hd
 rw [e0]
 have c:r.1*b≤t:=by rw [e,Int.zero_mul];exact ht
 rw [Kh,if_pos c]
 rcases Rj t b rs r.2 with e'|⟨r',h',e'⟩
 ·exact ⟨r,List.mem_cons_self ..,e'⟩
 ·exact ⟨r',List.mem_cons_of_mem _ h',e'⟩
def Li (rows:List Rw)(t b:Int):Q2:=if t<0 then ((Lz (-t) b rows (0,1)).2-(Lz (-t) b rows (0,1)).1,(Lz (-t) b rows (0,1)).2) else Lz t b rows (0,1)
theorem M5 {rows:List Rw}{t b:Int}(h:0≤t):Li rows t b=Lz t b rows (0,1):=if_neg (by omega)
theorem Vs {rows:List Rw}{t b:Int}(h:t<0):Li rows t b=((Li rows (-t) b).2-(Li rows (-t) b).1,(Li rows (-t) b).2):=by
 rw [M5 (show 0≤-t by omega)]
 exact if_pos h
theorem Z8 (a b:Int):Int.gcd (b-a) b=Int.gcd a b:=by
 have half:∀a b:Int,(Int.gcd a b:Int)∣(Int.gcd (b-a) b:Int):=fun a b=>by
  have h1:(Int.gcd a b:Int)∣a:=Int.gcd_dvd_left ..
  have h2:(Int.gcd a b:Int)∣b:=Int.gcd_dvd_right ..
  exact Int.dvd_coe_gcd (Int.dvd_sub h2 h1) h2
 have h:=half (b-a) b
 rw [show b-(b-a)=a by omega] at h
 exact Nat.dvd_antisymm (Int.ofNat_dvd.mp h) (Int.ofNat_dvd.mp (half a b))
theorem Aff {a b:Int}(hb:0<b)(g:Int.gcd a b=1):Sw (1*b-a*1) (1*b)=b-a∧Qs (1*b-a*1) (1*b)=b:=by
 rw [Int.one_mul,Int.mul_one]
 have g':Int.gcd (b-a) b=1:=by rw [Z8,g]
 have t:=Re (b-a) b
 have u:=Iq (b-a) b
 rw [g'] at t u
 unfold Sw Qs
 rw [if_neg (by omega),if_neg (by omega)]
 exact ⟨by simpa using t,by simpa using u⟩
theorem Ux {α β:Type}{R:α→β→Prop}:∀{l:List α} {m:List β},Aw R l m→∀{a:α},l.getLast? =some a→∃b,m.getLast? =some b∧R a b
 |_,_,.nil,a,h=>by simp at h
 |_,_,.cons x .nil,a,h=>by
  simp at h
  subst h
  exact ⟨_,rfl,x⟩
 |_,_,.cons x (.cons y r),a,h=>by
  rw [List.getLast?_cons_cons] at h ⊢
  exact Ux (.cons y r) h
def Fe (K:PySem.W.Frag)(ns:List Int):Sp:=fun vs H Q _=>match vs with
 |[.ref p,.ref q]=>∃x y:Q2,(Fq 1000 H p x.1 x.2∧Fq 1000 H q y.1 y.2)∧∀r H',Ai H H'→Wd H' r (x.1*y.2-y.1*x.2) (x.2*y.2)→Q (.ref r) H'
 |_=>False
theorem Yp:Ao ["one","other"] ["one","other"] (Ag Ph):=⟨rfl,rfl,rfl,by decide +kernel,rfl,by decide +kernel,by decide +kernel⟩
theorem Z2 (d:B0 K mg "minus" Ph ["one","other"])(er:Bh K mg c_LadderError c_Ledger c_NoBook c_NoFit c_NoGame c_NoNumber c_NoPlayer c_NoRow c_NoTable c_Rule)   (c_fraction:Bf P w K mg base "fraction" ["top","bottom"] 2 (Df K ns)):Bf P w K mg base "minus" ["one","other"] 3 (Fe K ns):=by
 refine d.cal (k:=2) Yp (fun vs H Q E h=>?_) (fun f cdv A outer s H vs Q E hr h=>?_)
 ·match vs,h with
  |[.ref p,.ref q],_=>rfl
 ·match vs,h with
  | [.ref p,.ref q],hq0=>
   obtain ⟨x,y,⟨h1,h2⟩,k⟩:=hq0
   refine ⟨_,(@Af _ _ _ (@At _ _ _ _ (@An _ _ _ _ _ _ _ _ _ _ _ c_fraction hr (by decide) (by rfl) (@Aa _ _ _ _ _ (@Aj _ _ _ _ _ _ _ _ M7 (@Aj _ _ _ _ _ _ _ _ Cw (@Am _ _ _ _ _ _ _ Au (dv 0) Ab (fun _ _=>rfl)) (@Am _ _ _ _ _ _ _ Au (dv 1) Ab (fun _ _=>rfl))) (@Aj _ _ _ _ _ _ _ _ Cw (@Am _ _ _ _ _ _ _ Au (dv 1) Ab (fun _ _=>rfl)) (@Am _ _ _ _ _ _ _ Au (dv 0) Ab (fun _ _=>rfl)))) (@Aa _ _ _ _ _ (@Aj _ _ _ _ _ _ _ _ Cw (@Am _ _ _ _ _ _ _ Au (dv 0) Ab (fun _ _=>rfl)) (@Am _ _ _ _ _ _ _ Au (dv 1) Ab (fun _ _=>rfl))) Ac (by rfl)) (by rfl)) (by decide) (by rfl) (by rfl)))),?_⟩
   exact ⟨_,h1.at',_,h2.at',Xl h1.ba h2.bb (by decide) (by decide),_,h2.at',_,h1.at',Xl h2.ba h1.bb (by decide) (by decide),_,h1.at',_,h2.at',Xl h1.bb h2.bb (by decide) (by decide),
    ⟨Int.ne_of_gt (Int.mul_pos h1.pos h2.pos),(h1.bb.mul h2.bb).mono (by decide)⟩,k⟩
def U5 (K:PySem.W.Frag)(ns:List Int):Sp:=fun vs H Q _=>match vs with
 |[.ref p,.ref q]=>∃x y:Q2,(Fq 1000 H p x.1 x.2∧Fq 1000 H q y.1 y.2)∧∀r H',Ai H H'→Wd H' r (x.1*y.2+y.1*x.2) (x.2*y.2)→Q (.ref r) H'
 |_=>False
theorem Ac3:Ao ["one","other"] ["one","other"] (Ag Tn):=⟨rfl,rfl,rfl,by decide +kernel,rfl,by decide +kernel,by decide +kernel⟩
theorem Abe (d:B0 K mg "plus" Tn ["one","other"])(er:Bh K mg c_LadderError c_Ledger c_NoBook c_NoFit c_NoGame c_NoNumber c_NoPlayer c_NoRow c_NoTable c_Rule)   (c_fraction:Bf P w K mg base "fraction" ["top","bottom"] 2 (Df K ns)):Bf P w K mg base "plus" ["one","other"] 3 (U5 K ns):=by
 refine d.cal (k:=2) Ac3 (fun vs H Q E h=>?_) (fun f cdv A outer s H vs Q E hr h=>?_)
 ·match vs,h with
  |[.ref p,.ref q],_=>rfl
 ·match vs,h with
  | [.ref p,.ref q],hq0=>
   obtain ⟨x,y,⟨h1,h2⟩,k⟩:=hq0
   refine ⟨_,(@Af _ _ _ (@At _ _ _ _ (@An _ _ _ _ _ _ _ _ _ _ _ c_fraction hr (by decide) (by rfl) (@Aa _ _ _ _ _ (@Aj _ _ _ _ _ _ _ _ Cl (@Aj _ _ _ _ _ _ _ _ Cw (@Am _ _ _ _ _ _ _ Au (dv 0) Ab (fun _ _=>rfl)) (@Am _ _ _ _ _ _ _ Au (dv 1) Ab (fun _ _=>rfl))) (@Aj _ _ _ _ _ _ _ _ Cw (@Am _ _ _ _ _ _ _ Au (dv 1) Ab (fun _ _=>rfl)) (@Am _ _ _ _ _ _ _ Au (dv 0) Ab (fun _ _=>rfl)))) (@Aa _ _ _ _ _ (@Aj _ _ _ _ _ _ _ _ Cw (@Am _ _ _ _ _ _ _ Au (dv 0) Ab (fun _ _=>rfl)) (@Am _ _ _ _ _ _ _ Au (dv 1) Ab (fun _ _=>rfl))) Ac (by rfl)) (by rfl)) (by decide) (by rfl) (by rfl)))),?_⟩
   exact ⟨_,h1.at',_,h2.at',Xl h1.ba h2.bb (by decide) (by decide),_,h2.at',_,h1.at',Xl h2.ba h1.bb (by decide) (by decide),_,h1.at',_,h2.at',Xl h1.bb h2.bb (by decide) (by decide),
    ⟨Int.ne_of_gt (Int.mul_pos h1.pos h2.pos),(h1.bb.mul h2.bb).mono (by decide)⟩,k⟩
def Dw:Nat→PySem.W.Frag→List Int→Sp
 |0,_,_=>fun _ _ _ _=>False
 |d+1,K,ns=>fun vs H Q _=>match vs with
  |[.ref L,.ref p]=>∃(rows:List Rw) (x:Q2),(TbA K H L rows∧Tb rows∧Fq 1700 H p x.1 x.2∧(x.1<0→0<d))∧∀r H',Ai H H'→H' r=some (.tup [.int (Li rows x.1 x.2).1,.int (Li rows x.1 x.2).2])→Q (.ref r) H'
  |_=>False
def Kv (K:PySem.W.Frag)(ns:List Int):Sp:=Dw 2 K ns
theorem Ge:Ao ["table","difference","begun"] ["table","difference"] (Ag Eg):=⟨rfl,rfl,rfl,by decide +kernel,rfl,by decide +kernel,by decide +kernel⟩
theorem Qm (d:B0 K mg "share_by" Eg ["table","difference"])(er:Bh K mg c_LadderError c_Ledger c_NoBook c_NoFit c_NoGame c_NoNumber c_NoPlayer c_NoRow c_NoTable c_Rule)   (c_under:Bf P w K mg base "under" ["one","other"] 1 (G0 K ns))(c_minus:Bf P w K mg base "minus" ["one","other"] 3 (Fe K ns))  (dd:Nat)(c_share_by:Bf P w K mg base "share_by" ["table","difference"] (4+dd) (Dw dd K ns)):Bf P w K mg base "share_by" ["table","difference"] (4+(dd+1)) (Dw (dd+1) K ns):=by
 refine d.cal (k:=4+dd) Ge (fun vs H Q E h=>?_) (fun f cdv A outer s H vs Q E hr h=>?_)
 ·match vs,h with
  |[.ref L,.ref p],_=>rfl
 ·match vs,h with
  | [.ref L,.ref p],hq0=>
   obtain ⟨rows,x,⟨hT,tb,f,hd⟩,k⟩:=hq0
   refine ⟨_,(@Ae _ _ _ _ _ (@Ct _ _ _ _ _ _ _ _ (@Bw _ _ _ _ _ _ _ _ Z3 (@Am _ _ _ _ _ _ _ Au (dv 1) Ab (fun _ _=>rfl)) Ab (@A1 _ _ (by decide) (by decide))) (@Af _ _ _ (@At _ _ _ _ (@An _ _ _ _ _ _ _ _ _ _ _ c_minus hr (by omega) (by rfl) (@Aa _ _ _ _ _ (@Cj _ _ _ _ _ (@Aa _ _ _ _ _ Ab (@Aa _ _ _ _ _ Ab Ac (by rfl)) (by rfl))) (@Aa _ _ _ _ _ (@An _ _ _ _ _ _ _ _ _ _ _ c_share_by hr (by omega) (by rfl) (@Aa _ _ _ _ _ (dv 0) (@Aa _ _ _ _ _ (@Cj _ _ _ _ _ (@Aa _ _ _ _ _ (@Vo _ _ _ _ _ _ Vr (@Am _ _ _ _ _ _ _ Au (dv 1) Ab (fun _ _=>rfl))) (@Aa _ _ _ _ _ (@Am _ _ _ _ _ _ _ Au (dv 1) Ab (fun _ _=>rfl)) Ac (by rfl)) (by rfl))) Ac (by rfl)) (by rfl)) (by decide) (by rfl) (by rfl)) Ac (by rfl)) (by rfl)) (by decide) (by rfl) (by rfl)))) A5) (@Ae _ _ _ _ _ (@N6 _ _ _ _ _ _ _ _ _ (2) _ _ _ _ _ _ ["row"] ["difference"] [1] rfl (@Db _ _ _ _ (dv 0)) (fun C s H fp=>(@Bb _ _ (0) _ (show List.Nodup [("row":Str),("difference":Str)] by decide +kernel) rfl (by trivial) (by trivial))) (fun C s H fp=>(@Cz _ _ _ _ (@Fk _ _ _ (@An _ _ _ _ _ _ _ _ _ _ _ c_under hr (by omega) (by rfl) (@Aa _ _ _ _ _ (dv 1) (@Aa _ _ _ _ _ (@Cj _ _ _ _ _ (@Aa _ _ _ _ _ (@Am _ _ _ _ _ _ _ Au (dv 0) Ab (fun _ _=>rfl)) (@Aa _ _ _ _ _ Ab Ac (by rfl)) (by rfl))) Ac (by rfl)) (by rfl)) (by decide) (by rfl) (by rfl)) (by intro _;rfl)))) (fun C s H fp=>(dv 0)) rfl rfl (by decide +kernel) (by decide +kernel) (by rfl) ⟨rfl,True.intro⟩ ⟨⟨rfl,rfl,rfl,rfl⟩,True.intro⟩ Ge.nd rfl rfl (by intro _;rfl) (by rfl)) (@Af _ _ _ (@At _ _ _ _ (@Am _ _ _ _ _ _ _ Au (@Am _ _ _ _ _ _ _ Cc (dv 2) (@Vo _ _ _ _ _ _ Vr Ab) (fun _ _=>rfl)) Ab (fun _ _=>rfl)))))),?_⟩
   refine ⟨_,f.at',⟨fun h=>?_,fun h=>?_⟩⟩
   ·have hneg:x.1<0:=of_decide_eq_true h
    clear h
    cases dd with
    |zero=>exact absurd (hd hneg) (by decide)
    |succ d' =>
     refine fun T1 H1 s1 e1=>?_
     have f1:=f.up s1
     refine ⟨_,f1.at',_,f1.at',fun T2 H2 s2 e2=>?_⟩
     have f2:Fq 1700 H2 T2 (-x.1) x.2:=⟨e2,f.pos,f.ba.neg,f.bb⟩
     refine ⟨rows,(-x.1,x.2),⟨hT.up (s1.trans s2),tb,f2,fun z=>absurd z (by show ¬(-x.1<0);omega)⟩,fun r H3 s3 e3=>?_⟩
     have ht:0≤-x.1:=by omega
     obtain ⟨m,hm,em⟩:=Po (b:=x.2) tb ht (0,1)
     have o:=tb.ok m hm
     have em:Li rows (-x.1) x.2=m.2:=(M5 ht).trans em
     have e3:H3 r=some (.tup [.int m.2.1,.int m.2.2]):=by rw [←em];exact e3
     have o1:=o.t0
     have o2:=o.tb
     have o3:=o.b0
     have o4:=o.b1
     have b1:Bd 1000 m.2.1:=Dd (b:=9999) (by omega) (by omega) (Ax rfl)
     have b2:Bd 1000 m.2.2:=Dd (b:=9999) (by omega) (by omega) (Ax rfl)
     refine ⟨(1,1),m.2,⟨⟨(s2.trans s3) _ _ e1,by decide,Ax rfl,Ax rfl⟩,⟨e3,o3,b1,b2⟩⟩,fun r' H4 s4 e4=>?_⟩
     refine k r' H4 (s1.trans (s2.trans (s3.trans s4))) ?_
     obtain ⟨u1,u2⟩:=Aff o3 o.g
     have e5:=e4.at'
     rw [Vs hneg,em]
     refine e5.trans ?_
     show some (HO.tup [V.int (Sw (1*m.2.2-m.2.1*1) (1*m.2.2)),V.int (Qs (1*m.2.2-m.2.1*1) (1*m.2.2))])=_
     rw [u1,u2]
   ·have h:=of_decide_eq_false h
    have hnn:0≤x.1:=by omega
    clear h
    obtain ⟨vs,hx,hm⟩:=hT
    have hc:(fun r:Rw=>!ltQ x (r.1,1))=fun r:Rw=>decide (r.1*x.2≤x.1):=by
     funext r
     show (!decide (x.1*1<r.1*x.2))=decide (r.1*x.2≤x.1)
     rw [Int.mul_one]
     by_cases c:r.1*x.2≤x.1
     ·rw [decide_eq_true c,decide_eq_false (by omega)]
      rfl
     ·rw [decide_eq_false c,decide_eq_true (by omega)]
      rfl
    have fx:Fq 1900 H p x.1 x.2:=f.mono (by decide)
    refine ⟨L,rfl,⟨_,hx⟩,Ww Es Dv (fun H r y=>Es H y r) (fun r y H H' kt h=>Dv y r H H' kt h) (fun r=>!ltQ x (r.1,1)) (by rw [hm.len];have:=tb.len;omega) hx hm ?_ ?_⟩
    ·intro v m H2 hM hm2 s2 P P' hP hP'
     obtain ⟨p',q',rfl,e1,e2⟩:=hM
     have o:=tb.ok m hm2
     have o1:=o.f0
     have o2:=o.f1
     have bm:Bd 1900 m.1:=Dd (b:=2000000) (by omega) (by omega) (Ax rfl)
     refine ⟨rfl,_,e1,fun T H3 s3 e3=>⟨x.1,x.2,m.1,1,⟨((fx.up s2).up s3).at',e3⟩,⟨fx.ba,fx.bb,bm,Ax rfl⟩,⟨fun h=>hP h _ _ s3 ⟨p',q',rfl,s3 _ _ e1,s3 _ _ e2⟩,fun h=>hP' h _ s3⟩⟩⟩
    intro D H1 ys s1 d1 e1 a1
    rw [hc] at a1
    obtain ⟨r0,rs,er0,z0⟩:=tb.hd
    have c0:r0∈rows.filter fun r=>decide (r.1*x.2≤x.1):=by
     refine List.mem_filter.mpr ⟨by rw [er0];exact List.mem_cons_self ..,?_⟩
     rw [z0,Int.zero_mul]
     exact decide_eq_true hnn
    obtain ⟨m,hm⟩:∃m,(rows.filter fun r=>decide (r.1*x.2≤x.1)).getLast? =some m:=by
     cases e:(rows.filter fun r=>decide (r.1*x.2≤x.1)).getLast? with
     |none=>
      rw [List.getLast?_eq_none_iff] at e
      rw [e] at c0
      simp at c0
     |some m=>exact ⟨m,rfl⟩
    obtain ⟨v,hv,p',q',rfl,g1,g2⟩:=Ux a1 hm
    have em:Li rows x.1 x.2=m.2:=by
     rw [M5 hnn,Nu,hm]
     rfl
    refine ⟨_,.ref p',A0.of e1,Rf hv,_,g1,k q' H1 s1 ?_⟩
    rw [em]
    exact g2
theorem Je (d:B0 K mg "share_by" Eg ["table","difference"])(er:Bh K mg c_LadderError c_Ledger c_NoBook c_NoFit c_NoGame c_NoNumber c_NoPlayer c_NoRow c_NoTable c_Rule)   (c_under:Bf P w K mg base "under" ["one","other"] 1 (G0 K ns))(c_minus:Bf P w K mg base "minus" ["one","other"] 3 (Fe K ns)): ∀dd:Nat,Bf P w K mg base "share_by" ["table","difference"] (4+dd) (Dw dd K ns)
 |0=>d.cal (k:=3) Ge (fun vs H Q E h=>False.elim h) (fun f cdv A outer s H vs Q E hr h=>False.elim h)
 |dd+1=>Qm d er c_under c_minus dd (Je d er c_under c_minus dd)
theorem Sc (d:B0 K mg "share_by" Eg ["table","difference"])(er:Bh K mg c_LadderError c_Ledger c_NoBook c_NoFit c_NoGame c_NoNumber c_NoPlayer c_NoRow c_NoTable c_Rule)   (c_under:Bf P w K mg base "under" ["one","other"] 1 (G0 K ns))(c_minus:Bf P w K mg base "minus" ["one","other"] 3 (Fe K ns)):Bf P w K mg base "share_by" ["table","difference"] 6 (Kv K ns):=Je d er c_under c_minus 2
def Oa (K:PySem.W.Frag)(ns:List Int):Sp:=fun vs H Q _=>match vs with
 |[.ref a,.int k]=>A0 K H a (ns.map V.int)∧(0≤k∧k<1000∧Xc ns)∧∀c,Q (.int c) H
 |_=>False
theorem J5:Ao ["_law_script","_law_k","_law_number"] ["_law_script","_law_k"] (Ag Mm):=⟨rfl,rfl,rfl,by decide +kernel,rfl,by decide +kernel,by decide +kernel⟩
theorem V5 (d:B0 K mg "_law_cell" Mm ["_law_script","_law_k"])(er:Bh K mg c_LadderError c_Ledger c_NoBook c_NoFit c_NoGame c_NoNumber c_NoPlayer c_NoRow c_NoTable c_Rule)(n_len:mg "len"=none)  :Bf P w K mg base "_law_cell" ["_law_script","_law_k"] 1 (Oa K ns):=by
 refine d.cal (k:=0) J5 (fun vs H Q E h=>?_) (fun f cdv A outer s H vs Q E hr h=>?_)
 ·match vs,h with
  |[.ref a,.int k],_=>rfl
 ·match vs,h with
  | [.ref a,.int k],hq0=>
   obtain ⟨hS,⟨k0,k1,hb⟩,q⟩:=hq0
   refine ⟨_,(@Ae _ _ _ _ _ (@Ct _ _ _ _ _ _ _ _ (@Bw _ _ _ _ _ _ _ _ Z3 (dv 1) (@Aq _ _ _ _ _ _ _ _ _ Cm (by rfl) n_len (by decide +kernel) (@Aa _ _ _ _ _ (dv 0) Ac (by rfl)) (by decide) (by decide) (by rfl) (by rfl)) (@A1 _ _ (by decide) (by decide))) (@Af _ _ _ (@At _ _ _ _ (@Am _ _ _ _ _ _ _ Cc (dv 0) (dv 1) (fun _ _=>rfl)))) A5) (@Ae _ _ _ _ _ (@Ar _ _ (2) _ _ _ _ J5.nd rfl (by trivial) (@Aj _ _ _ _ _ _ _ _ Cl (@Aj _ _ _ _ _ _ _ _ Cw Ab (dv 1)) Ab) (by rfl) (by trivial)) (@Dc _ _ _ _ _ (@Ct _ _ _ _ _ _ _ _ (@Bw _ _ _ _ _ _ _ _ Abv (@Aq _ _ _ _ _ _ _ _ _ Cm (by rfl) n_len (by decide +kernel) (@Aa _ _ _ _ _ (dv 0) Ac (by rfl)) (by decide) (by decide) (by rfl) (by rfl)) Ab (@A1 _ _ (by decide) (by decide))) (@Af _ _ _ (@Ar _ _ (2) _ _ _ _ J5.nd rfl (by trivial) (@Aj _ _ _ _ _ _ _ _ Cl (@Aj _ _ _ _ _ _ _ _ Cl (@Aj _ _ _ _ _ _ _ _ Cw (@Am _ _ _ _ _ _ _ Cc (dv 0) (@Aj _ _ _ _ _ _ _ _ Bm (@Aj _ _ _ _ _ _ _ _ Cw (dv 1) Ab) (@Aq _ _ _ _ _ _ _ _ _ Cm (by rfl) n_len (by decide +kernel) (@Aa _ _ _ _ _ (dv 0) Ac (by rfl)) (by decide) (by decide) (by rfl) (by rfl))) (fun _ _=>rfl)) Ab) (@Aj _ _ _ _ _ _ _ _ Cw (@Aj _ _ _ _ _ _ _ _ Cw (dv 1) (dv 1)) Ab)) Ab) (by rfl) (by trivial))) A5) (@Af _ _ _ (@At _ _ _ _ (@Aj _ _ _ _ _ _ _ _ Bm (@Aj _ _ _ _ _ _ _ _ Afx (dv 2) (dv 2)) Ab)))))),?_⟩
   refine ⟨_,.inl hS,?_⟩
   rw [List.length_map]
   refine ⟨fun h=>?_,fun h=>?_⟩
   ·have h:=of_decide_eq_true h
    obtain ⟨j,rfl⟩:=Int.eq_ofNat_of_zero_le k0
    have hj:j<ns.length:=by omega
    refine ⟨_,.int ns[j],hS,Cn ?_,q _⟩
    rw [List.getElem?_map,List.getElem?_eq_getElem hj]
    rfl
   ·clear h
    refine ⟨.inr (.inl ⟨by decide,by decide⟩),?_⟩
    refine ⟨fun σ H'=>∃z:Int,σ=[some (.ref a),some (.int k),some (.int z)]∧H'=H∧Builtin.Int.intBits z≤1100000,⟨_,.inl hS,⟨fun h=>?_,fun h=>⟨_,rfl,rfl,Nat.le_trans (intBits_le_64 (by omega) (by omega)) (by decide)⟩⟩⟩,?_⟩
    ·have h:=of_decide_eq_true h
     rw [List.length_map] at h
     refine ⟨.inr (.inr ⟨by decide,by decide⟩),_,.inl hS,?_⟩
     rw [List.length_map]
     refine ⟨h,?_⟩
     obtain ⟨n,hn,hv⟩:=Age ns (show 0<ns.length by omega) (k*_)
     have kk:=Xi k0 k1
     refine ⟨_,.int n,hS,hv,.inr (.inr ⟨by decide,by decide⟩),.inr (.inl ⟨by omega,by omega⟩),.inr (.inr ⟨by decide,by decide⟩),_,rfl,rfl,?_⟩
     refine Nat.le_trans (bits_add (m:=1048576+65) (n:=64) (Nat.le_trans (bits_add (m:=1048576+64) (n:=64) (bits_mul (m:=1048576) (n:=64) (hb n hn) (intBits_le_64 (by decide) (by decide))) (intBits_le_64 (by omega) (by omega))) (by decide)) (intBits_le_64 (by decide) (by decide))) (by decide)
    ·rintro σ H' ⟨z,rfl,rfl,bz⟩
     exact ⟨mulOk_of_bits bz bz (by decide),(by show (0:Int)<_;decide),q _⟩
def Kn (K:PySem.W.Frag)(so:Int)(C:Addr):Prop:=so=0∧PySem.W.nsIn K mainGlobals "Rule"=some (some (.ref C))
structure Fds (fs:List (Str×V))(so st fi one two:Int)(T:Addr):Prop where
 st:fs.lookup ("step":Str)=some (.int st)
 fi:fs.lookup ("first":Str)=some (.int fi)
 tb:fs.lookup ("table":Str)=some (.ref T)
 sz:fs.lookup ("size":Str)=none
 bt:fs.lookup ("bit":Str)=none
 tw:fs.lookup ("twin":Str)=none
theorem Bg {K:PySem.W.Frag}{x:Str}{C D:Addr}(h:PySem.W.nsIn K mainGlobals x=some (some (.ref C)))(h':PySem.W.nsIn K mainGlobals x=some (some (.ref D))):C=D:=by
 rw [h] at h'
 cases h'
 rfl
def Fs (K:PySem.W.Frag)(ns:List Int):Sp:=fun vs H Q _=>match vs with
 |[.ref a,.int p,.int r]=>∃C dx fs st,(H a=some (.ins C dx fs)∧M8 K C∧NoAttr K C "step"∧fs.lookup ("step":Str)=some (.int st))∧Q (.int st) H
 |_=>False
theorem Pt:Ao ["self","played","rest"] ["self","played","rest"] (Ag Gi):=⟨rfl,rfl,rfl,by decide +kernel,rfl,by decide +kernel,by decide +kernel⟩
theorem Qo (d:Dq K [c_Rule] [] "size" "Rule.size" Gi ["self","played","rest"])(er:Bh K mg c_LadderError c_Ledger c_NoBook c_NoFit c_NoGame c_NoNumber c_NoPlayer c_NoRow c_NoTable c_Rule)   :Cr P w K mg base [c_Rule] [] "size" ["self","played","rest"] 1 (Fs K ns):=by
 refine d.cal (k:=0) Pt (fun vs H Q E h=>?_) (fun f cdv A outer s H vs Q E hr h=>?_)
 ·match vs,h with
  |[.ref a,.int p,.int r],_=>rfl
 ·match vs,h with
  |[.ref a,.int p,.int r],hq0=>
   obtain ⟨C,dx,fs,st,⟨h1,h2,h3,h4⟩,q⟩:=hq0
   refine ⟨_,(@Af _ _ _ (@At _ _ _ _ (@Bz _ _ _ _ _ (dv 0) (by rfl)))),?_⟩
   exact ⟨a,C,dx,fs,_,rfl,h1,h2,h3,h4,q⟩
theorem Hw {f:Str}{v:V}{fs:List (Str×V)}:(A8 f v fs).lookup f=some v:=by rw [Ew,if_pos rfl]
theorem Av {f g:Str}{v:V}{fs:List (Str×V)}{o:Option V}(ne:g≠f)(h:fs.lookup g=o):(A8 f v fs).lookup g=o:=by rw [Ew,if_neg ne,h]
def Sx (x:Addr)(H H':Hp):Prop:=∀b o,b≠x→H b=some o→H' b=some o
theorem Sx.upd {x:Addr}{H:Hp}{o:HO}:Sx x H (upd H x o):=fun b u ne e=>by rw [Ak ne];exact e
theorem Sx.trans {x:Addr}{H H1 H2:Hp}(a:Sx x H H1)(b:Sx x H1 H2):Sx x H H2:=fun c o ne e=>b c o ne (a c o ne e)
theorem Sx.of {x:Addr}{H H':Hp}(s:Ai H H'):Sx x H H':=fun b o _ e=>s b o e
theorem Sx.kt {x C dx:Addr}{fs:List (Str×V)}{H H':Hp}(a:Sx x H H')(h:H x=some (.ins C dx fs)):Kt H H':=fun p xs e=>a p _ (fun z=>by rw [z,h] at e;cases e) e
def Ai9 (st fi:Int)(T:Addr)(fs:List (Str×V)):List (Str×V):=A8 "table" (.ref T) (A8 "first" (.int fi) (A8 "step" (.int st) fs))
def C8 (K:PySem.W.Frag)(ns:List Int):Sp:=fun vs H Q _=>match vs with
 |[.ref x,.int st,.int fi,.ref L]=>∃C dx fs rows vs,(H x=some (.ins C dx fs)∧M8 K C∧NoAttr K C "step"∧NoAttr K C "first"∧NoAttr K C "table"∧fs.length<900∧H L=some (.lst vs)∧Aw (Es H) vs rows∧Jj rows) ∧
  ∀T H',Sx x H H'→T≠x→H T=none→H' T=some (.lst vs)→H' x=some (.ins C dx (Ai9 st fi T fs))→Q .non H'
 |_=>False
theorem Kk:Ao ["self","step","first","table"] ["self","step","first","table"] (Ag Dt):=⟨rfl,rfl,rfl,by decide +kernel,rfl,by decide +kernel,by decide +kernel⟩
theorem J4 (d:Dq K [c_Rule] [] "__init__" "Rule.__init__" Dt ["self","step","first","table"])(er:Bh K mg c_LadderError c_Ledger c_NoBook c_NoFit c_NoGame c_NoNumber c_NoPlayer c_NoRow c_NoTable c_Rule)   (c_table_of:Bf P w K mg base "table_of" ["rows"] 5 (K3 K ns)):Cr P w K mg base [c_Rule] [] "__init__" ["self","step","first","table"] 6 (C8 K ns):=by
 refine d.cal (k:=5) Kk (fun vs H Q E h=>?_) (fun f cdv A outer s H vs Q E hr h=>?_)
 ·match vs,h with
  |[.ref x,.int st,.int fi,.ref L],_=>rfl
 ·match vs,h with
  | [.ref x,.int st,.int fi,.ref L],hq0=>
   obtain ⟨C,dx,fs,rows,vs,⟨h1,h2,n1,n2,n3,l9,hL,al,good⟩,k⟩:=hq0
   refine ⟨_,(@Ae _ _ _ _ _ (@Hu _ _ _ _ _ _ _ _ (dv 0) (dv 1) rfl) (@Ae _ _ _ _ _ (@Hu _ _ _ _ _ _ _ _ (dv 0) (dv 2) rfl) (@Af _ _ _ (@Hu _ _ _ _ _ _ _ _ (dv 0) (@An _ _ _ _ _ _ _ _ _ _ _ c_table_of hr (by decide) (by rfl) (@Aa _ _ _ _ _ (dv 3) Ac (by rfl)) (by decide) (by rfl) (by rfl)) rfl)))),?_⟩
   have l1:=Ca "step" (.int st) fs
   have l2:=Ca "first" (.int fi) (A8 "step" (.int st) fs)
   have nL:L≠x:=fun z=>by rw [z,h1] at hL;cases hL
   refine ⟨x,C,dx,fs,rfl,h1,h2,n1,by omega,⟨x,C,dx,_,rfl,Ad,h2,n2,by omega,?_⟩⟩
   have s2:Sx x H (upd (upd H x (.ins C dx (A8 "step" (.int st) fs))) x (.ins C dx (A8 "first" (.int fi) (A8 "step" (.int st) fs)))):=Sx.trans Sx.upd Sx.upd
   have e2:upd (upd H x (.ins C dx (A8 "step" (.int st) fs))) x (.ins C dx (A8 "first" (.int fi) (A8 "step" (.int st) fs))) x=some (.ins C dx (A8 "first" (.int fi) (A8 "step" (.int st) fs))):=Ad
   generalize upd (upd H x (.ins C dx (A8 "step" (.int st) fs))) x (.ins C dx (A8 "first" (.int fi) (A8 "step" (.int st) fs)))=H2 at s2 e2
   have hL2:=s2 _ _ nL hL
   have al2:Aw (Es H2) vs rows:=al.imp fun v g r=>Dv v g _ _ (s2.kt h1) r
   have lv:vs.length=rows.length:=al.len
   have lr:=good.1
   refine ⟨some (rows.map some),.inl ⟨L,vs,rows.map some,rfl,hL2,by omega,Ada al2,rfl⟩,fun h=>absurd ⟨rows,rfl,good⟩ (h _ rfl),fun rows' vs' l' el hl' eo _ T H3 s3 n3' e3=>?_⟩
   cases el
   rw [hL2] at hl'
   cases hl'
   have nT:T≠x:=fun z=>by rw [z,e2] at n3';cases n3'
   refine ⟨x,C,dx,_,rfl,s3 _ _ e2,h2,n3,by omega,?_⟩
   refine k T _ (s2.trans (Sx.trans (Sx.of s3) Sx.upd)) nT ?_ (by rw [Ak nT];exact e3) Ad
   cases e:H T with
   |none=>rfl
   |some o=>
    rw [s2 _ _ nT e] at n3'
    cases n3'
theorem fd0 {st fi:Int}{T:Addr}{fs:List (Str×V)}(h:fs=[]):Fds (Ai9 st fi T fs) 0 st fi 0 0 T:=by
 subst h
 exact ⟨Av (by decide +kernel) (Av (by decide +kernel) Hw),Av (by decide +kernel) Hw,Hw,Av (by decide +kernel) (Av (by decide +kernel) (Av (by decide +kernel) rfl)),Av (by decide +kernel) (Av (by decide +kernel) (Av (by decide +kernel) rfl)),Av (by decide +kernel) (Av (by decide +kernel) (Av (by decide +kernel) rfl))⟩
def W1 (so st one two p r:Int):Int:=if so=1∧p<two then one else if so=2∧one<r then st*two else st
structure Nb (st one two:Int):Prop where
 s0:0≤st
 s1:st≤1000000
 o0:0≤one
 o1:one≤1000001
 t0:0≤two
 t1:two≤1000001
theorem Nb.bst {st one two:Int}(h:Nb st one two):Bd 40 st:=Dd (b:=1000001) (by have:=h.s0;omega) (by have:=h.s1;omega) (Ax rfl)
theorem Nb.bon {st one two:Int}(h:Nb st one two):Bd 40 one:=Dd (b:=1000001) (by have:=h.o0;omega) h.o1 (Ax rfl)
theorem Nb.btw {st one two:Int}(h:Nb st one two):Bd 40 two:=Dd (b:=1000001) (by have:=h.t0;omega) h.t1 (Ax rfl)
theorem Yd {so st one two p r:Int}(h:Nb st one two):Bd 80 (W1 so st one two p r):=by
 unfold W1
 split
 ·exact h.bon.mono (by decide)
 ·split
  ·exact h.bst.mul h.btw
  ·exact h.bst.mono (by decide)
def SzT (K:PySem.W.Frag)(T:List (Addr×Sp)):Prop:=∀so C,Kn K so C→∃sp,(C,sp)∈T∧∀fs st fi one two Tb,Fds fs so st fi one two Tb→Nb st one two→∀a dx H p r Q,H a=some (.ins C dx fs)→Q (.int (W1 so st one two p r)) H→sp [.ref a,.int p,.int r] H Q E0
theorem Ajd {K:PySem.W.Frag}{ns:List Int}{c0:Addr}(y0:PySem.W.nsIn K mainGlobals "Rule"=some (some (.ref c0)))(l0:M8 K c0)(n0:NoAttr K c0 "step"):SzT K [(c0,Fs K ns)]:=by
 rintro so C ⟨rfl,h⟩
 have z:=Bg h y0
 subst z
 refine ⟨_,.head _,fun fs st fi one two Tb f b a dx H p r Q e q=>⟨_,dx,fs,st,⟨e,l0,n0,f.st⟩,?_⟩⟩
 have:W1 0 st one two p r=st:=by
  unfold W1
  rw [if_neg (fun c=>absurd c.1 (by decide)),if_neg (fun c=>absurd c.1 (by decide))]
 rw [this] at q
 exact q
theorem Agm {rows:List Rw}(tb:Tb rows)(t b:Int):0≤(Li rows t b).1∧(Li rows t b).1≤(Li rows t b).2∧0<(Li rows t b).2∧(Li rows t b).2≤9999:=by
 by_cases h:t<0
 ·obtain ⟨r,hr,e⟩:=Po (b:=b) tb (show 0≤-t by omega) (0,1)
  have o:=tb.ok r hr
  have e':Li rows t b=(r.2.2-r.2.1,r.2.2):=by
   rw [Vs h,M5 (show 0≤-t by omega),e]
  rw [e']
  have o1:=o.t0
  have o2:=o.tb
  have o3:=o.b0
  have o4:=o.b1
  exact ⟨by show 0≤r.2.2-r.2.1;omega,by show r.2.2-r.2.1≤r.2.2;omega,o3,o4⟩
 ·obtain ⟨r,hr,e⟩:=Po (b:=b) tb (show 0≤t by omega) (0,1)
  have o:=tb.ok r hr
  rw [M5 (by omega),e]
  exact ⟨o.t0,o.tb,o.b0,o.b1⟩
def unT (z h:Int)(x:Q2):Int:=z*(h*x.2-2*x.1)
def unB (x:Q2):Int:=2*x.2
def unQ (z h:Int)(x:Q2):Q2:=(Sw (unT z h x) (unB x),Qs (unT z h x) (unB x))
structure ShQ (x:Q2):Prop where
 t0:0≤x.1
 tb:x.1≤x.2
 b0:0<x.2
 b1:x.2≤9999
theorem Pj {rows:List Rw}(tb:Tb rows)(t b:Int):ShQ (Li rows t b):=by
 obtain ⟨h1,h2,h3,h4⟩:=Agm tb t b
 exact ⟨h1,h2,h3,h4⟩
theorem ShQ.bT {x:Q2}{z h:Int}(s:ShQ x)(hz:Bd 80 z)(h0:0≤h)(h2:h≤2):Bd 20 h∧Bd 20 x.1∧Bd 20 x.2∧Bd 40 (h*x.2-2*x.1)∧Bd 120 (unT z h x)∧Bd 40 (unB x):=by
 have s0:=s.t0
 have s1:=s.tb
 have s2:=s.b0
 have s3:=s.b1
 have b1:Bd 20 x.1:=Dd (b:=9999) (by omega) (by omega) (Ax rfl)
 have b2:Bd 20 x.2:=Dd (b:=9999) (by omega) (by omega) (Ax rfl)
 have b3:Bd 20 h:=Dd (b:=2) (by omega) (by omega) (Ax rfl)
 have hm:h*x.2≤2*x.2:=Int.mul_le_mul_of_nonneg_right h2 (by omega)
 have hn:=Int.mul_nonneg h0 (show 0≤x.2 by omega)
 have b4:Bd 40 (h*x.2-2*x.1):=Dd (b:=20000) (by omega) (by omega) (Ax rfl)
 exact ⟨b3,b1,b2,b4,hz.mul b4,Dd (b:=20000) (by unfold unB;omega) (by unfold unB;omega) (Ax rfl)⟩
def Jk (K:PySem.W.Frag)(ns:List Int):Sp:=fun vs H Q _=>match vs with
 |[.int z,.ref s,.int h]=>∃x:Q2,(H s=some (.tup [.int x.1,.int x.2])∧ShQ x∧Bd 80 z∧0≤h∧h≤2)∧∀q H',Ai H H'→H' q=some (.tup [.int (unQ z h x).1,.int (unQ z h x).2])→Q (.ref q) H'
 |_=>False
theorem O9:Ao ["size","share","halves"] ["size","share","halves"] (Ag Gq):=⟨rfl,rfl,rfl,by decide +kernel,rfl,by decide +kernel,by decide +kernel⟩
theorem Pi (d:B0 K mg "uncut_bit" Gq ["size","share","halves"])(er:Bh K mg c_LadderError c_Ledger c_NoBook c_NoFit c_NoGame c_NoNumber c_NoPlayer c_NoRow c_NoTable c_Rule)   (c_fraction:Bf P w K mg base "fraction" ["top","bottom"] 2 (Df K ns)):Bf P w K mg base "uncut_bit" ["size","share","halves"] 3 (Jk K ns):=by
 refine d.cal (k:=2) O9 (fun vs H Q E h=>?_) (fun f cdv A outer s H vs Q E hr h=>?_)
 ·match vs,h with
  |[.int z,.ref s,.int h],_=>rfl
 ·match vs,h with
  |[.int z,.ref s,.int h],hq0=>
   obtain ⟨x,⟨hs,sh,bz,h0,h2⟩,k⟩:=hq0
   refine ⟨_,(@Af _ _ _ (@At _ _ _ _ (@An _ _ _ _ _ _ _ _ _ _ _ c_fraction hr (by decide) (by rfl) (@Aa _ _ _ _ _ (@Aj _ _ _ _ _ _ _ _ Cw (dv 0) (@Aj _ _ _ _ _ _ _ _ M7 (@Aj _ _ _ _ _ _ _ _ Cw (dv 2) (@Am _ _ _ _ _ _ _ Au (dv 1) Ab (fun _ _=>rfl))) (@Aj _ _ _ _ _ _ _ _ Cw Ab (@Am _ _ _ _ _ _ _ Au (dv 1) Ab (fun _ _=>rfl))))) (@Aa _ _ _ _ _ (@Aj _ _ _ _ _ _ _ _ Cw Ab (@Am _ _ _ _ _ _ _ Au (dv 1) Ab (fun _ _=>rfl))) Ac (by rfl)) (by rfl)) (by decide) (by rfl) (by rfl)))),?_⟩
   obtain ⟨b1,b2,b3,b4,b5,b6⟩:=sh.bT bz h0 h2
   have p:=sh.b0
   exact ⟨_,hs,Xl b1 b3 (by decide) (by decide),_,hs,Xl (Ax (n:=20) rfl) b2 (by decide) (by decide),Xl bz b4 (by decide) (by decide),_,hs,Xl (Ax (n:=20) rfl) b3 (by decide) (by decide),⟨by show 2*x.2≠0;omega,b6.mono (by decide)⟩,fun q H' s e=>k q H' s e.at'⟩
def Ag0 (x:Q2)(c:Int):Q2:=if c*x.2<x.1 then (c,1) else if x.1 < -c*x.2 then (-c,1) else x
def Agx (so st one two p r h:Int)(x:Q2):Q2:=if so=3 then Ag0 (unQ (W1 so st one two p r) h x) one else unQ (W1 so st one two p r) h x
def Hh (K:PySem.W.Frag)(H:Hp)(a:Addr)(so st fi one two:Int)(rows:List Rw):Prop:=∃C dx fs T,H a=some (.ins C dx fs)∧Kn K so C∧Fds fs so st fi one two T∧TbA K H T rows
theorem Hh.up {K:PySem.W.Frag}{H H':Hp}{a:Addr}{so st fi one two:Int}{rows:List Rw}(s:Ai H H'):Hh K H a so st fi one two rows→Hh K H' a so st fi one two rows:=fun ⟨C,dx,fs,T,e,k,f,t⟩=>⟨C,dx,fs,T,s _ _ e,k,f,t.up s⟩
def Gr (K:PySem.W.Frag)(ns:List Int):Sp:=fun vs H Q _=>match vs with
 |[.ref a,.ref d,.int h,.int p,.int r]=>∃(so st fi one two:Int) (rows:List Rw) (x:Q2),(Hh K H a so st fi one two rows∧so≠3∧Tb rows∧Nb st one two∧Fq 1700 H d x.1 x.2∧0≤h∧h≤2)∧∀q H',Ai H H'→H' q=some (.tup [.int (Agx so st one two p r h (Li rows x.1 x.2)).1,.int (Agx so st one two p r h (Li rows x.1 x.2)).2])→Q (.ref q) H'
 |_=>False
theorem R0:Ao ["self","difference","halves","played","rest"] ["self","difference","halves","played","rest"] (Ag Ho):=⟨rfl,rfl,rfl,by decide +kernel,rfl,by decide +kernel,by decide +kernel⟩
theorem Q0 (d:Dq K [c_Rule] [] "bit" "Rule.bit" Ho ["self","difference","halves","played","rest"])(er:Bh K mg c_LadderError c_Ledger c_NoBook c_NoFit c_NoGame c_NoNumber c_NoPlayer c_NoRow c_NoTable c_Rule)   (c_uncut_bit:Bf P w K mg base "uncut_bit" ["size","share","halves"] 3 (Jk K ns))(c_share_by:Bf P w K mg base "share_by" ["table","difference"] 6 (Kv K ns))(c_Rule_size:Cr P w K mg base [c_Rule] [] "size" ["self","played","rest"] 1 (Fs K ns)):Cr P w K mg base [c_Rule] [] "bit" ["self","difference","halves","played","rest"] 7 (Gr K ns):=by
 refine d.cal (k:=6) R0 (fun vs H Q E h=>?_) (fun f cdv A outer s H vs Q E hr h=>?_)
 ·match vs,h with
  |[.ref a,.ref d,.int h,.int p,.int r],_=>rfl
 ·match vs,h with
  |[.ref a,.ref d,.int h,.int p,.int r],hq0=>
   obtain ⟨so,st,fi,one,two,rows,x,⟨⟨C,dx,fs,T,e,kn,f,ht⟩,n3,tb,b,fx,h0,h2⟩,k⟩:=hq0
   refine ⟨_,(@Af _ _ _ (@At _ _ _ _ (@An _ _ _ _ _ _ _ _ _ _ _ c_uncut_bit hr (by decide) (by rfl) (@Aa _ _ _ _ _ (@O7 _ _ _ _ _ _ _ _ _ _ _ _ (dv 0) (@B8 _ _ _ _ _ _ _ _ _ _ _ _ _ _ c_Rule_size (List.Mem.head _) er.l_Rule (by decide) Cv) hr (@Aa _ _ _ _ _ (dv 3) (@Aa _ _ _ _ _ (dv 4) Ac (by rfl)) (by rfl)) (by rfl) (by rfl) (by rfl)) (@Aa _ _ _ _ _ (@An _ _ _ _ _ _ _ _ _ _ _ c_share_by hr (by decide) (by rfl) (@Aa _ _ _ _ _ (@Bz _ _ _ _ _ (dv 0) (by rfl)) (@Aa _ _ _ _ _ (dv 1) Ac (by rfl)) (by rfl)) (by decide) (by rfl) (by rfl)) (@Aa _ _ _ _ _ (dv 2) Ac (by rfl)) (by rfl)) (by rfl)) (by decide) (by rfl) (by rfl)))),?_⟩
   obtain ⟨sp,hm,hs⟩:=Ajd (ns:=ns) er.y_Rule er.l_Rule er.na_Rule_step so C kn
   have cn:M8 K C∧NoAttr K C "table":=Bg er.y_Rule kn.2▸⟨er.l_Rule,er.na_Rule_table⟩
   refine ⟨a,C,dx,fs,sp,rfl,e,hm,f.sz,hs fs st fi one two T f b a dx H p r _ e ?_⟩
   refine ⟨a,C,dx,fs,_,rfl,e,cn.1,cn.2,f.tb,rows,x,⟨ht,tb,fx,fun _=>by decide⟩,fun q H1 s1 e1=>?_⟩
   refine ⟨Li rows x.1 x.2,⟨e1,Pj tb _ _,Yd b,h0,h2⟩,fun q2 H2 s2 e2=>k q2 H2 (s1.trans s2) ?_⟩
   rw [show Agx so st one two p r h (Li rows x.1 x.2)=unQ (W1 so st one two p r) h (Li rows x.1 x.2) from if_neg n3]
   exact e2
def btQ (so one z h:Int)(x:Q2):Q2:=if so=3 then Ag0 (unQ z h x) one else unQ z h x
abbrev Bv:Pos:=⟨63,29,63,53⟩
abbrev Fl:Str:=Str.ofString "in_order"++Str.ofString ".<locals>."++Str.ofString "<lambda>"
abbrev Bi (K:PySem.W.Frag):Addr:=O2 K "in_order"
def dk (gs:List Gm)(i:Nat):Int:=match gs[i]? with
 |some g=>g.d
 |none=>0
theorem Ad7 {key:Nat→Int}{n:Nat}{p:List Nat}(h:Ll key n p):p.Nodup:=h.2.2.imp fun {a b} l e=>by
 subst e
 rcases l with l|⟨_,l⟩
 ·exact Int.lt_irrefl _ l
 ·exact Nat.lt_irrefl _ l
theorem M4 {key:Nat→Int}{n:Nat}{p:List Nat}(h:Ll key n p):p.Perm (List.range n):=by
 have nd:=Ad7 h
 refine (List.perm_ext_iff_of_nodup nd List.nodup_range).mpr fun i=>⟨fun hi=>List.mem_range.mpr (h.2.1 i hi),fun hi=>?_⟩
 refine Classical.byContradiction fun c=>?_
 have:=Gz (l:=i::p) (m:=List.range n) (List.nodup_cons.mpr ⟨c,nd⟩) fun x hx=>by
  rcases List.mem_cons.mp hx with rfl|hx
  ·exact hi
  ·exact List.mem_range.mpr (h.2.1 x hx)
 rw [List.length_cons,List.length_range,h.1] at this
 omega
theorem Mz {key:Nat→Int}{n:Nat}{p q:List Nat}(hp:Ll key n p)(hq:Ll key n q):p=q:=by
 refine List.Perm.eq_of_pairwise (le:=Lt key) (fun a b _ _ l l'=>?_) hp.2.2 hq.2.2 ((M4 hp).trans (M4 hq).symm)
 rcases l with l|⟨e,l⟩
 ·rcases l' with l'|⟨e',l'⟩<;>omega
 ·rcases l' with l'|⟨e',l'⟩<;>omega
def Rh (P:Addr)(H H':Hp):Prop:=∀b o,b≠P→H b=some o→H' b=some o
def pk (vs:List V)(p:List Nat):List V:=p.map fun i=>vs.getD i .non
theorem Aiy {H:Hp}{vs:List V}{gs:List Gm}(a:Aw (Ck H) vs gs){i:Nat}{v:V}(e:vs[i]? =some v):∃g,gs[i]? =some g∧Ck H v g∧dk gs i=g.d:=by
 obtain ⟨g,h1,h2⟩:=a.get e
 refine ⟨g,h1,h2,?_⟩
 unfold dk
 rw [h1]
def Ez (K:PySem.W.Frag)(ns:List Int):Sp:=fun vs H Q _=>match vs with
 |[.ref L]=>∃(gs:List Gm) (xs:List V),(A0 K H L xs∧Aw (Ck H) xs gs∧gs.length<64∧Ay H (Bi K) Bv Fl)∧∀D H' p,Rh (Bi K) H H'→H D=none→H' D=some (.lst (pk xs p))→Ay H' (Bi K) Bv Fl→Ll (dk gs) gs.length p→Q (.ref D) H'
 |_=>False
theorem Q7:Ao ["games"] ["games"] (Ag Cp):=⟨rfl,rfl,rfl,by decide +kernel,rfl,by decide +kernel,by decide +kernel⟩
theorem Rk (d:B0 K mg "in_order" Cp ["games"])(tk:Adz K mg base "in_order")(er:Bh K mg c_LadderError c_Ledger c_NoBook c_NoFit c_NoGame c_NoNumber c_NoPlayer c_NoRow c_NoTable c_Rule)(n_sorted:mg "sorted"=none)  :Bf P w K mg base "in_order" ["games"] 3 (Ez K ns):=by
 refine d.calT (k:=2) tk Q7 (fun vs H Q E h=>?_) (fun f cdv A outer s H vs Q E tf hr h=>?_)
 ·match vs,h with
  |[.ref L],_=>rfl
 ·match vs,h with
  |[.ref L],hq0=>
   obtain ⟨gs,xs,⟨hx,hm,hl,hT⟩,k⟩:=hq0
   refine ⟨_,(@Af _ _ _ (@At _ _ _ _ (@Abp _ _ _ _ _ _ _ _ _ _ _ _ _ (0) tf hr (by rfl) n_sorted (@Aa _ _ _ _ _ (dv 0) Ac (by rfl)) (by decide) (by rfl) (by intros;rfl)))),?_⟩
   refine ⟨L,xs,dk gs,rfl,hx,by rw [hm.len];exact hl,fun i v e=>?_,hT,fun D H2 p s d e t st=>k D H2 p s d e t (by rw [←hm.len];exact st)⟩
   obtain ⟨g,h1,⟨a,rfl,ea⟩,h3⟩:=Aiy hm e
   rw [h3]
   exact ⟨a,_,rfl,ea⟩
def BtT (K:PySem.W.Frag)(T:List (Addr×Sp)):Prop:=∀so C,Kn K so C→∃sp,(C,sp)∈T∧∀a H st fi one two rows d h p r Q (x:Q2),Hh K H a so st fi one two rows→Tb rows→Nb st one two→Fq 1700 H d x.1 x.2→0≤h→h≤2→(∀q H',Ai H H'→H' q=some (.tup [.int (btQ so one (W1 so st one two p r) h (Li rows x.1 x.2)).1,.int (btQ so one (W1 so st one two p r) h (Li rows x.1 x.2)).2])→Q (.ref q) H')→sp [.ref a,.ref d,.int h,.int p,.int r] H Q E0
theorem Aja {K:PySem.W.Frag}{ns:List Int}{c0:Addr}(y0:PySem.W.nsIn K mainGlobals "Rule"=some (some (.ref c0))):BtT K [(c0,Gr K ns)]:=by
 rintro so C ⟨rfl,h⟩
 have z:=Bg h y0
 subst z
 exact ⟨_,.head _,fun a H st fi one two rows d h p r Q x hR tb b f h0 h2 k=>⟨0,st,fi,one,two,rows,x,⟨hR,by decide,tb,b,f,h0,h2⟩,k⟩⟩
theorem So {K:PySem.W.Frag}{H:Hp}:∀(us:List Int),Pb K H (us.map V.int) (us.map PyData.int)
 |[]=>.nil
 |u::us=>.cons (.int _) (So us)
theorem U4:∀(us:List Int),PyData.canLayAll0 (us.map PyData.int)=true
 |[]=>rfl
 |u::us=>by
  show (true&&PyData.canLayAll0 (us.map PyData.int))=true
  rw [U4 us]
  rfl
theorem V3:∀(us:List Int),PyData.depthAll (us.map PyData.int)=0
 |[]=>rfl
 |u::us=>by
  show max 0 (PyData.depthAll (us.map PyData.int))=0
  rw [V3 us]
  rfl
theorem Aay (us:List Int):SeqAt.shaped (.list (us.map PyData.int))=true:=by
 unfold SeqAt.shaped
 have e:(PyData.list (us.map PyData.int)).depth=PyData.depthAll (us.map PyData.int)+1:=rfl
 have:=V3 us
 rw [show (PyData.list (us.map PyData.int)).canLay0=true from U4 us,e,Bool.true_and]
 exact decide_eq_true (by omega)
structure Ps where
 q:Q2
 n:Nat
 l:Int
abbrev Wn:=Str→Option Ps
def wq (fi:Int):Option Ps→Q2
 |some p=>p.q
 |none=>(fi,1)
def Tt:Option Ps→Nat
 |some p=>p.n
 |none=>0
def wr (d:Int):Option Ps→Int
 |some p=>d-p.l
 |none=>0
def mn (i j:Int):Int:=if j<i then j else i
def mx (i j:Int):Int:=if j>i then j else i
def lsd (d:Int):Option Int→Int
 |some l=>d-l
 |none=>0
def Gn (K:PySem.W.Frag)(ns:List Int):Sp:=fun vs H Q _=>match vs with
 |[.ref L,.int d]=>∃xs:List Int,H L=some (.lst (xs.map V.int))∧∀H',Ai H H'→Q (.int (lsd d xs.getLast?)) H'
 |_=>False
theorem Mo:Ao ["days","day"] ["days","day"] (Ag E1):=⟨rfl,rfl,rfl,by decide +kernel,rfl,by decide +kernel,by decide +kernel⟩
theorem Ml (d:B0 K mg "rest_behind" E1 ["days","day"])(er:Bh K mg c_LadderError c_Ledger c_NoBook c_NoFit c_NoGame c_NoNumber c_NoPlayer c_NoRow c_NoTable c_Rule)   :Bf P w K mg base "rest_behind" ["days","day"] 1 (Gn K ns):=by
 refine d.cal (k:=0) Mo (fun vs H Q E h=>?_) (fun f cdv A outer s H vs Q E hr h=>?_)
 ·match vs,h with
  |[.ref L,.int d],_=>rfl
 ·match vs,h with
  | [.ref L,.int d],hq0=>
   obtain ⟨xs,hL,k⟩:=hq0
   refine ⟨_,(@Af _ _ _ (@At _ _ _ _ (@Akc _ _ _ _ _ _ _ _ (@Bw _ _ _ _ _ _ _ _ (@Iv _ hr.units) (dv 0) (@F5 _ _ _ _ Ac) (@A1 _ _ (by decide) (by decide))) Ab (@Aj _ _ _ _ _ _ _ _ M7 (dv 1) (@Am _ _ _ _ _ _ _ Cc (dv 0) (@Vo _ _ _ _ _ _ Vr Ab) (fun _ _=>rfl)))))),?_⟩
   intro E0' H1 s1 e1
   have hL1:=s1 _ _ hL
   refine ⟨_,_,.lst (A0.of hL1) (So xs),.lst (A0.of e1) .nil,Aay xs,rfl,?_⟩
   cases xs with
   |nil=>exact ⟨fun _=>k H1 s1,fun h=>absurd (show PyData.eqv (.list []) (.list [])=false from h) (by decide)⟩
   | cons x xs=>
    have ne:PyData.eqv (.list ((x::xs).map PyData.int)) (.list [])=false:=rfl
    rw [ne]
    refine ⟨fun h=>nb h,fun _=>?_⟩
    obtain ⟨l,hl⟩:∃l,(x::xs).getLast? =some l:=by
     cases c:(x::xs).getLast? with
     |none=>simp at c
     |some l=>exact ⟨l,rfl⟩
    refine ⟨_,.int l,A0.of hL1,Rf (by rw [List.getLast?_map,hl];rfl),?_⟩
    have:=k H1 s1
    rw [hl] at this
    exact this
structure Sd where
 g:Gm
 x:Q2
 y:Q2
 b:Q2
def P6 (H:Hp)(v:V)(s:Sd):Prop:=∃t pg px py pb,v=.ref t∧H t=some (.tup [.ref pg,.ref px,.ref py,.ref pb])∧H pg=some (.tup [.int s.g.d,.str s.g.a,.str s.g.b,.int s.g.h,.int s.g.s])∧H px=some (.tup [.int s.x.1,.int s.x.2])∧H py=some (.tup [.int s.y.1,.int s.y.2])∧H pb=some (.tup [.int s.b.1,.int s.b.2])
theorem Lx (v:V)(s:Sd)(H H':Hp)(k:Kt H H')(h:P6 H v s):P6 H' v s:=by
 obtain ⟨t,pg,px,py,pb,e,h0,h1,h2,h3,h4⟩:=h
 exact ⟨t,pg,px,py,pb,e,k _ _ h0,k _ _ h1,k _ _ h2,k _ _ h3,k _ _ h4⟩
def plQ (x y:Q2):Q2:=(Sw (x.1*y.2+y.1*x.2) (x.2*y.2),Qs (x.1*y.2+y.1*x.2) (x.2*y.2))
def mnQ (x y:Q2):Q2:=(Sw (x.1*y.2-y.1*x.2) (x.2*y.2),Qs (x.1*y.2-y.1*x.2) (x.2*y.2))
structure Sq (n:Nat)(x:Q2):Prop where
 pos:0<x.2
 ba:Bd n x.1
 bb:Bd n x.2
theorem Sq.fq {n m:Nat}{H:Hp}{p:Addr}{x:Q2}(s:Sq n x)(l:n≤m)(e:H p=some (.tup [.int x.1,.int x.2])):Fq m H p x.1 x.2:=⟨e,s.pos,s.ba.mono l,s.bb.mono l⟩
def O5 (K:PySem.W.Frag)(ns:List Int):Sp:=fun vs H Q _=>match vs with
 |[.ref W,v]=>∃(kvs:List (Bl×V)) (s:Sd),(H W=some (.dK kvs)∧kvs.length≤100∧P6 H v s∧Sq 900 s.x∧Sq 900 s.y∧Sq 900 s.b)∧∀p1 p2 H',Sx W H H'→p1≠W→p2≠W→H' p1=some (.tup [.int (plQ s.x s.b).1,.int (plQ s.x s.b).2])→H' p2=some (.tup [.int (mnQ s.y s.b).1,.int (mnQ s.y s.b).2])→H' W=some (.dK (Cb (Cb kvs (Sum.inr s.g.a) (.ref p1)) (Sum.inr s.g.b) (.ref p2)))→Q .non H'
 |_=>False
theorem Ac0:Ao ["worths","step"] ["worths","step"] (Ag Tc):=⟨rfl,rfl,rfl,by decide +kernel,rfl,by decide +kernel,by decide +kernel⟩
theorem Aa6 (d:B0 K mg "move" Tc ["worths","step"])(er:Bh K mg c_LadderError c_Ledger c_NoBook c_NoFit c_NoGame c_NoNumber c_NoPlayer c_NoRow c_NoTable c_Rule)   (c_minus:Bf P w K mg base "minus" ["one","other"] 3 (Fe K ns))(c_plus:Bf P w K mg base "plus" ["one","other"] 3 (U5 K ns)):Bf P w K mg base "move" ["worths","step"] 4 (O5 K ns):=by
 refine d.cal (k:=3) Ac0 (fun vs H Q E h=>?_) (fun f cdv A outer s H vs Q E hr h=>?_)
 ·match vs,h with
  |[.ref W,v],_=>rfl
 ·match vs,h with
  | [.ref W,v],hq0=>
   obtain ⟨kvs,s,⟨hW,lk,⟨t,pg,px,py,pb,ev,h0,h1,h2,h3,h4⟩,sx,sy,sb⟩,k⟩:=hq0
   refine ⟨_,(@Ae _ _ _ _ _ (@Hb _ _ _ _ _ _ _ _ _ (@u1 _ _ hr.units) (dv 0) (@Am _ _ _ _ _ _ _ Au (@Am _ _ _ _ _ _ _ Au (dv 1) Ab (fun _ _=>rfl)) Ab (fun _ _=>rfl)) (@An _ _ _ _ _ _ _ _ _ _ _ c_plus hr (by decide) (by rfl) (@Aa _ _ _ _ _ (@Am _ _ _ _ _ _ _ Au (dv 1) Ab (fun _ _=>rfl)) (@Aa _ _ _ _ _ (@Am _ _ _ _ _ _ _ Au (dv 1) Ab (fun _ _=>rfl)) Ac (by rfl)) (by rfl)) (by decide) (by rfl) (by rfl)) rfl) (@Af _ _ _ (@Hb _ _ _ _ _ _ _ _ _ (@u1 _ _ hr.units) (dv 0) (@Am _ _ _ _ _ _ _ Au (@Am _ _ _ _ _ _ _ Au (dv 1) Ab (fun _ _=>rfl)) Ab (fun _ _=>rfl)) (@An _ _ _ _ _ _ _ _ _ _ _ c_minus hr (by decide) (by rfl) (@Aa _ _ _ _ _ (@Am _ _ _ _ _ _ _ Au (dv 1) Ab (fun _ _=>rfl)) (@Aa _ _ _ _ _ (@Am _ _ _ _ _ _ _ Au (dv 1) Ab (fun _ _=>rfl)) Ac (by rfl)) (by rfl)) (by decide) (by rfl) (by rfl)) rfl))),?_⟩
   subst ev
   have ne:∀{b:Addr} {xs:List V},H b=some (.tup xs)→b≠W:=fun e z=>by rw [z,hW] at e;cases e
   refine ⟨_,h0,_,h0,s.x,s.b,⟨sx.fq (by decide) h2,sb.fq (by decide) h4⟩,fun p1 H1 s1 f1=>⟨_,s1 _ _ h0,_,s1 _ _ h1,W,_,rfl,Nk.k (k:=Sum.inr s.g.a) (s1 _ _ hW) ?_,?_⟩⟩
   ·exact Nat.lt_of_le_of_lt lk (by decide)
   have x1:Sx W H (upd H1 W (.dK (Cb kvs (Sum.inr s.g.a) (.ref p1)))):=Sx.trans (Sx.of s1) Sx.upd
   have e1:upd H1 W (.dK (Cb kvs (Sum.inr s.g.a) (.ref p1))) W=some (.dK (Cb kvs (Sum.inr s.g.a) (.ref p1))):=Ad
   have n1:p1≠W:=fun z=>by
    have:=f1.at'
    rw [z,s1 _ _ hW] at this
    cases this
   have g1:upd H1 W (.dK (Cb kvs (Sum.inr s.g.a) (.ref p1))) p1=some (.tup [.int (plQ s.x s.b).1,.int (plQ s.x s.b).2]):=by rw [Ak n1];exact f1.at'
   generalize upd H1 W (.dK (Cb kvs (Sum.inr s.g.a) (.ref p1)))=H2 at x1 e1 g1
   have l1:=By kvs (Sum.inr s.g.a) (.ref p1)
   have q0:=x1 _ _ (ne h0) h0
   have q1:=x1 _ _ (ne h1) h1
   refine ⟨_,q0,_,q0,s.y,s.b,⟨sy.fq (by decide) (x1 _ _ (ne h3) h3),sb.fq (by decide) (x1 _ _ (ne h4) h4)⟩,fun p2 H3 s3 f3=>⟨_,s3 _ _ q0,_,s3 _ _ q1,W,_,rfl,Nk.k (k:=Sum.inr s.g.b) (s3 _ _ e1) ?_,?_⟩⟩
   ·exact Nat.lt_of_le_of_lt (show _≤101 by omega) (by decide)
   have n2:p2≠W:=fun z=>by
    have:=f3.at'
    rw [z,s3 _ _ e1] at this
    cases this
   exact k p1 p2 _ (x1.trans (Sx.trans (Sx.of s3) Sx.upd)) n1 n2 (by rw [Ak n1];exact s3 _ _ g1) (by rw [Ak n2];exact f3.at') Ad
def Gu (H:Hp)(W:Addr)(n:Nat)(u:Str→Option Q2):Prop:=∃kvs,H W=some (.dK kvs)∧kvs.length≤n∧∀x,(u x=none∧B1 kvs (Sum.inr x)=none)∨∃q p,u x=some q∧B1 kvs (Sum.inr x)=some (.ref p)∧H p=some (.tup [.int q.1,.int q.2])
def Gd (H:Hp)(D:Addr)(n:Nat)(v:Str→Option (Nat×Int)):Prop:=∃kvs,H D=some (.dK kvs)∧kvs.length≤n∧∀x,(v x=none∧B1 kvs (Sum.inr x)=none)∨∃m l p xs,v x=some (m,l)∧B1 kvs (Sum.inr x)=some (.ref p)∧H p=some (.lst ((xs:List Int).map V.int))∧xs.length=m∧xs.getLast? =some l
def wU (w:Wn):Str→Option Q2:=fun x=>(w x).map Ps.q
def wV (w:Wn):Str→Option (Nat×Int):=fun x=>(w x).map fun s=>(s.n,s.l)
theorem Gu.up {H H':Hp}{W:Addr}{n:Nat}{u:Str→Option Q2}(s:Ai H H')(h:Gu H W n u):Gu H' W n u:=by
 obtain ⟨kvs,e,l,a⟩:=h
 exact ⟨kvs,s _ _ e,l,fun x=>(a x).imp id fun ⟨q,p,h1,h2,h3⟩=>⟨q,p,h1,h2,s _ _ h3⟩⟩
theorem Gd.up {H H':Hp}{W:Addr}{n:Nat}{v:Str→Option (Nat×Int)}(s:Ai H H')(h:Gd H W n v):Gd H' W n v:=by
 obtain ⟨kvs,e,l,a⟩:=h
 exact ⟨kvs,s _ _ e,l,fun x=>(a x).imp id fun ⟨m,l,p,xs,h1,h2,h3,h4⟩=>⟨m,l,p,xs,h1,h2,s _ _ h3,h4⟩⟩
theorem Gu.get {H:Hp}{W T:Addr}{n:Nat}{w:Wn}{fi:Int}(h:Gu H W n (wU w))(x:Str)(e:H T=some (.tup [.int fi,.int 1])):∃o p,Et H W (.str x) o∧o.getD (.ref T)=.ref p∧H p=some (.tup [.int (wq fi (w x)).1,.int (wq fi (w x)).2]):=by
 obtain ⟨kvs,eW,l,a⟩:=h
 have d:=Et.k (k:=Sum.inr x) eW
 rcases a x with ⟨h1,h2⟩|⟨q,p,h1,h2,h3⟩
 ·rw [h2] at d
  have:w x=none:=Option.map_eq_none_iff.mp h1
  rw [this]
  exact ⟨_,T,d,rfl,e⟩
 ·rw [h2] at d
  obtain ⟨s,hs,rfl⟩:=Option.map_eq_some_iff.mp h1
  rw [hs]
  exact ⟨_,p,d,rfl,h3⟩
theorem Gd.get' {H:Hp}{D T:Addr}{n:Nat}{v:Str→Option (Nat×Int)}(h:Gd H D n v)(x:Str)(e:H T=some (.lst [])):∃o p xs,Et H D (.str x) o∧o.getD (.ref T)=.ref p∧H p=some (.lst ((xs:List Int).map V.int))∧((v x=none∧xs=[])∨∃m l,v x=some (m,l)∧xs.length=m∧xs.getLast? =some l):=by
 obtain ⟨kvs,eW,l,a⟩:=h
 have d:=Et.k (k:=Sum.inr x) eW
 rcases a x with ⟨h1,h2⟩|⟨m,l,p,xs,h1,h2,h3,h4,h5⟩
 ·rw [h2] at d
  exact ⟨_,T,[],d,rfl,e,.inl ⟨h1,rfl⟩⟩
 ·rw [h2] at d
  exact ⟨_,p,xs,d,rfl,h3,.inr ⟨m,l,h1,h4,h5⟩⟩
theorem Gd.get {H:Hp}{D T:Addr}{n:Nat}{w:Wn}(h:Gd H D n (wV w))(x:Str)(e:H T=some (.lst [])):∃o p xs,Et H D (.str x) o∧o.getD (.ref T)=.ref p∧H p=some (.lst ((xs:List Int).map V.int))∧xs.length=Tt (w x)∧∀d,lsd d xs.getLast? =wr d (w x):=by
 obtain ⟨o,p,xs,d,g,q,c⟩:=h.get' x e
 refine ⟨o,p,xs,d,g,q,?_⟩
 rcases c with ⟨h1,rfl⟩|⟨m,l,h1,h4,h5⟩
 ·have:w x=none:=Option.map_eq_none_iff.mp h1
  rw [this]
  exact ⟨rfl,fun _=>rfl⟩
 ·obtain ⟨s,hs,e⟩:=Option.map_eq_some_iff.mp h1
  cases e
  rw [hs,h5]
  exact ⟨h4,fun _=>rfl⟩
def Iw (so st fi one two:Int)(rows:List Rw)(w:Wn)(g:Gm):Q2:=
 btQ so one (W1 so st one two (mn (Tt (w g.a)) (Tt (w g.b))) (mx (wr g.d (w g.a)) (wr g.d (w g.b)))) g.h (Li rows (mnQ (wq fi (w g.a)) (wq fi (w g.b))).1 (mnQ (wq fi (w g.a)) (wq fi (w g.b))).2)
theorem Afh {n m:Nat}{H:Hp}{p:Addr}{x y:Q2}(sx:Sq n x)(sy:Sq n y)(l:n+n+1≤m)(f:Wd H p (x.1*y.2-y.1*x.2) (x.2*y.2)):Fq m H p (mnQ x y).1 (mnQ x y).2:=
 (f.fq (n:=m) (Int.ne_of_gt (Int.mul_pos sx.pos sy.pos)) ((Bd.sub (sx.ba.mul sy.bb) (sy.ba.mul sx.bb)).mono l) ((sx.bb.mul sy.bb).mono (by omega)))
def Ii (K:PySem.W.Frag)(ns:List Int):Sp:=fun vs H Q _=>match vs with
 |[.ref r,.ref W,.ref D,.ref pg]=>∃(so st fi one two:Int) (rows:List Rw) (w:Wn) (n:Nat) (g:Gm),(Hh K H r so st fi one two rows∧Tb rows∧Nb st one two∧Gu H W n (wU w)∧Gd H D n (wV w)∧H pg=some (.tup [.int g.d,.str g.a,.str g.b,.int g.h,.int g.s])∧0≤g.h∧g.h≤2∧Sq 800 (wq fi (w g.a))∧Sq 800 (wq fi (w g.b))) ∧
  ∀v H',Ai H H'→P6 H' v ⟨g,wq fi (w g.a),wq fi (w g.b),Iw so st fi one two rows w g⟩→Q v H'
 |_=>False
theorem B3:Ao ["rule","worths","days","played","before","other_before","own","others","fewest","longest"] ["rule","worths","days","played"] (Ag Gp):=⟨rfl,rfl,rfl,by decide +kernel,rfl,by decide +kernel,by decide +kernel⟩
theorem Qa (d:B0 K mg "next_step" Gp ["rule","worths","days","played"])(er:Bh K mg c_LadderError c_Ledger c_NoBook c_NoFit c_NoGame c_NoNumber c_NoPlayer c_NoRow c_NoTable c_Rule)(n_max:mg "max"=none)(n_min:mg "min"=none)(n_len:mg "len"=none)  (c_Rule_bit:Cr P w K mg base [c_Rule] [] "bit" ["self","difference","halves","played","rest"] 7 (Gr K ns))(c_minus:Bf P w K mg base "minus" ["one","other"] 3 (Fe K ns))(c_rest_behind:Bf P w K mg base "rest_behind" ["days","day"] 1 (Gn K ns)):Bf P w K mg base "next_step" ["rule","worths","days","played"] 8 (Ii K ns):=by
 refine d.cal (k:=7) B3 (fun vs H Q E h=>?_) (fun f cdv A outer s H vs Q E hr h=>?_)
 ·match vs,h with
  |[.ref r,.ref W,.ref D,.ref pg],_=>rfl
 ·match vs,h with
  |[.ref r,.ref W,.ref D,.ref pg],hq0=>
   obtain ⟨so,st,fi,one,two,rows,w,n,g,⟨hR,tb,b,hW,hD,hg,h0,h2,sa,sb⟩,k⟩:=hq0
   refine ⟨_,(@Ae _ _ _ _ _ (@Ar _ _ (4) _ _ _ _ B3.nd rfl (by trivial) (@Gc _ _ _ _ _ _ _ _ _ (@u1 _ _ hr.units) (dv 1) (@Am _ _ _ _ _ _ _ Au (dv 3) Ab (fun _ _=>rfl)) (@Cj _ _ _ _ _ (@Aa _ _ _ _ _ (@Bz _ _ _ _ _ (dv 0) (by rfl)) (@Aa _ _ _ _ _ Ab Ac (by rfl)) (by rfl))) ⟨rfl,rfl,rfl,rfl⟩) (by rfl) (by trivial)) (@Ae _ _ _ _ _ (@Ar _ _ (5) _ _ _ _ B3.nd rfl (by trivial) (@Gc _ _ _ _ _ _ _ _ _ (@u1 _ _ hr.units) (dv 1) (@Am _ _ _ _ _ _ _ Au (dv 3) Ab (fun _ _=>rfl)) (@Cj _ _ _ _ _ (@Aa _ _ _ _ _ (@Bz _ _ _ _ _ (dv 0) (by rfl)) (@Aa _ _ _ _ _ Ab Ac (by rfl)) (by rfl))) ⟨rfl,rfl,rfl,rfl⟩) (by rfl) (by trivial)) (@Ae _ _ _ _ _ (@Ar _ _ (6) _ _ _ _ B3.nd rfl (by trivial) (@Gc _ _ _ _ _ _ _ _ _ (@u1 _ _ hr.units) (dv 2) (@Am _ _ _ _ _ _ _ Au (dv 3) Ab (fun _ _=>rfl)) (@F5 _ _ _ _ Ac) ⟨rfl,rfl,rfl,rfl⟩) (by rfl) (by trivial)) (@Ae _ _ _ _ _ (@Ar _ _ (7) _ _ _ _ B3.nd rfl (by trivial) (@Gc _ _ _ _ _ _ _ _ _ (@u1 _ _ hr.units) (dv 2) (@Am _ _ _ _ _ _ _ Au (dv 3) Ab (fun _ _=>rfl)) (@F5 _ _ _ _ Ac) ⟨rfl,rfl,rfl,rfl⟩) (by rfl) (by trivial)) (@Ae _ _ _ _ _ (@Ar _ _ (8) _ _ _ _ B3.nd rfl (by trivial) (@Aq _ _ _ _ _ _ _ _ _ (@Om _ rfl) (by rfl) n_min (by decide +kernel) (@Aa _ _ _ _ _ (@Aq _ _ _ _ _ _ _ _ _ Cm (by rfl) n_len (by decide +kernel) (@Aa _ _ _ _ _ (dv 6) Ac (by rfl)) (by decide) (by decide) (by rfl) (by rfl)) (@Aa _ _ _ _ _ (@Aq _ _ _ _ _ _ _ _ _ Cm (by rfl) n_len (by decide +kernel) (@Aa _ _ _ _ _ (dv 7) Ac (by rfl)) (by decide) (by decide) (by rfl) (by rfl)) Ac (by rfl)) (by rfl)) (by decide) (by decide) (by rfl) (by rfl)) (by rfl) (by trivial)) (@Ae _ _ _ _ _ (@Ar _ _ (9) _ _ _ _ B3.nd rfl (by trivial) (@Aq _ _ _ _ _ _ _ _ _ (@Nv _ rfl) (by rfl) n_max (by decide +kernel) (@Aa _ _ _ _ _ (@An _ _ _ _ _ _ _ _ _ _ _ c_rest_behind hr (by decide) (by rfl) (@Aa _ _ _ _ _ (dv 6) (@Aa _ _ _ _ _ (@Am _ _ _ _ _ _ _ Au (dv 3) Ab (fun _ _=>rfl)) Ac (by rfl)) (by rfl)) (by decide) (by rfl) (by rfl)) (@Aa _ _ _ _ _ (@An _ _ _ _ _ _ _ _ _ _ _ c_rest_behind hr (by decide) (by rfl) (@Aa _ _ _ _ _ (dv 7) (@Aa _ _ _ _ _ (@Am _ _ _ _ _ _ _ Au (dv 3) Ab (fun _ _=>rfl)) Ac (by rfl)) (by rfl)) (by decide) (by rfl) (by rfl)) Ac (by rfl)) (by rfl)) (by decide) (by decide) (by rfl) (by rfl)) (by rfl) (by trivial)) (@Af _ _ _ (@At _ _ _ _ (@Cj _ _ _ _ _ (@Aa _ _ _ _ _ (dv 3) (@Aa _ _ _ _ _ (dv 4) (@Aa _ _ _ _ _ (dv 5) (@Aa _ _ _ _ _ (@O7 _ _ _ _ _ _ _ _ _ _ _ _ (dv 0) (@B8 _ _ _ _ _ _ _ _ _ _ _ _ _ _ c_Rule_bit (List.Mem.head _) er.l_Rule (by decide) Cv) hr (@Aa _ _ _ _ _ (@An _ _ _ _ _ _ _ _ _ _ _ c_minus hr (by decide) (by rfl) (@Aa _ _ _ _ _ (dv 4) (@Aa _ _ _ _ _ (dv 5) Ac (by rfl)) (by rfl)) (by decide) (by rfl) (by rfl)) (@Aa _ _ _ _ _ (@Am _ _ _ _ _ _ _ Au (dv 3) Ab (fun _ _=>rfl)) (@Aa _ _ _ _ _ (dv 8) (@Aa _ _ _ _ _ (dv 9) Ac (by rfl)) (by rfl)) (by rfl)) (by rfl)) (by rfl) (by rfl) (by rfl)) Ac (by rfl)) (by rfl)) (by rfl)) (by rfl))))))))))),?_⟩
   have hR':=hR
   obtain ⟨C,dx,fs,T,e,kn,f,ht⟩:=hR'
   have cn:M8 K C∧NoAttr K C "first":=Bg er.y_Rule kn.2▸⟨er.l_Rule,er.na_Rule_first⟩
   have isW:∀{H':Hp},Gu H' W n (wU w)→IsD H' W:=fun ⟨kvs,z,_⟩=>.inl ⟨kvs,.inl z⟩
   have isD:∀{H':Hp},Gd H' D n (wV w)→IsD H' D:=fun ⟨kvs,z,_⟩=>.inl ⟨kvs,.inl z⟩
   refine ⟨W,rfl,isW hW,_,hg,r,C,dx,fs,_,rfl,e,cn.1,cn.2,f.fi,fun T1 H1 s1 e1=>?_⟩
   obtain ⟨o1,px,d1,g1,q1⟩:=(hW.up s1).get g.a e1
   refine ⟨o1,d1,?_⟩
   rw [g1]
   refine ⟨W,rfl,isW (hW.up s1),_,s1 _ _ hg,r,C,dx,fs,_,rfl,s1 _ _ e,cn.1,cn.2,f.fi,fun T2 H2 s2 e2=>?_⟩
   have s12:=s1.trans s2
   obtain ⟨o2,py,d2,g2,q2⟩:=(hW.up s12).get g.b e2
   refine ⟨o2,d2,?_⟩
   rw [g2]
   have hg2:=s12 _ _ hg
   refine ⟨D,rfl,isD (hD.up s12),_,hg2,fun T3 H3 s3 e3=>?_⟩
   have s13:=s12.trans s3
   obtain ⟨o3,p3,xs3,d3,g3,q3,n3,r3⟩:=(hD.up s13).get g.a e3
   refine ⟨o3,d3,?_⟩
   rw [g3]
   refine ⟨D,rfl,isD (hD.up s13),_,s13 _ _ hg,fun T4 H4 s4 e4=>?_⟩
   have s14:=s13.trans s4
   obtain ⟨o4,p4,xs4,d4,g4,q4,n4,r4⟩:=(hD.up s14).get g.b e4
   refine ⟨o4,d4,?_⟩
   rw [g4]
   have q3:=s4 _ _ q3
   refine ⟨_,.inl (A0.of q3),_,.inl (A0.of q4),_,_,rfl,?_⟩
   rw [List.length_map,List.length_map,n3,n4]
   refine ⟨_,s14 _ _ hg,xs3,q3,fun H5 s5=>⟨_,(s14.trans s5) _ _ hg,xs4,s5 _ _ q4,fun H6 s6=>⟨_,_,rfl,?_⟩⟩⟩
   rw [r3,r4]
   have s46:=s5.trans s6
   have s16:=s14.trans s46
   have hbt:=Aja (ns:=ns) er.y_Rule
   obtain ⟨sp2,hm2,hs2⟩:=hbt so C kn
   have q1:=(s2.trans (s3.trans (s4.trans s46))) _ _ q1
   have q2:=(s3.trans (s4.trans s46)) _ _ q2
   refine ⟨r,C,dx,fs,sp2,rfl,s16 _ _ e,hm2,f.bt,wq fi (w g.a),wq fi (w g.b),⟨sa.fq (by decide) q1,sb.fq (by decide) q2⟩,fun q7 H7 s7 f7=>⟨_,(s16.trans s7) _ _ hg,?_⟩⟩
   refine hs2 r H7 st fi one two rows q7 g.h _ _ _ (mnQ (wq fi (w g.a)) (wq fi (w g.b))) (hR.up (s16.trans s7)) tb b (Afh sa sb (by decide) f7) h0 h2 fun q8 H8 s8 e8=>fun S H9 s9 e9=>?_
   have s69:=s7.trans (s8.trans s9)
   exact k _ H9 (s16.trans s69) ⟨S,pg,px,py,q8,rfl,e9,(s16.trans s69) _ _ hg,s69 _ _ q1,s69 _ _ q2,s9 _ _ e8⟩
structure WB (i:Nat)(x:Q2):Prop where
 pos:0<x.2
 ba:Bd (121+16*i) x.1
 bb:Bd (1+15*i) x.2
structure BB (x:Q2):Prop where
 pos:0<x.2
 ba:Bd 120 x.1
 bb:Bd 15 x.2
theorem WB.mono {i j:Nat}{x:Q2}(h:WB i x)(l:i≤j):WB j x:=⟨h.pos,h.ba.mono (by omega),h.bb.mono (by omega)⟩
theorem WB.sq {i n:Nat}{x:Q2}(h:WB i x)(l:121+16*i≤n):Sq n x:=⟨h.pos,h.ba.mono l,h.bb.mono (by omega)⟩
theorem BB.sq {n:Nat}{x:Q2}(h:BB x)(l:120≤n):Sq n x:=⟨h.pos,h.ba.mono l,h.bb.mono (by omega)⟩
theorem Ah3 {i:Nat}{x b:Q2}(h:WB i x)(hb:BB b):WB (i+1) (plQ x b):=by
 refine ⟨Le _ (Int.ne_of_gt (Int.mul_pos h.pos hb.pos)),Pf ?_,Pw ?_⟩
 ·exact (Bd.add ((h.ba.mul hb.bb).mono (show 121+16*i+15≤136+16*i by omega)) ((hb.ba.mul h.bb).mono (show 120+(1+15*i)≤136+16*i by omega))).mono (by omega)
 ·exact (h.bb.mul hb.bb).mono (by omega)
theorem Ai7 {i:Nat}{x b:Q2}(h:WB i x)(hb:BB b):WB (i+1) (mnQ x b):=by
 refine ⟨Le _ (Int.ne_of_gt (Int.mul_pos h.pos hb.pos)),Pf ?_,Pw ?_⟩
 ·exact (Bd.sub ((h.ba.mul hb.bb).mono (show 121+16*i+15≤136+16*i by omega)) ((hb.ba.mul h.bb).mono (show 120+(1+15*i)≤136+16*i by omega))).mono (by omega)
 ·exact (h.bb.mul hb.bb).mono (by omega)
theorem Y8 {so st one two p r h:Int}{x:Q2}(s:ShQ x)(b:Nb st one two)(h0:0≤h)(h2:h≤2):BB (btQ so one (W1 so st one two p r) h x):=by
 obtain ⟨_,_,_,_,b5,_⟩:=s.bT (Yd (so:=so) (p:=p) (r:=r) b) h0 h2
 have s0:=s.b0
 have s1:=s.b1
 have u:BB (unQ (W1 so st one two p r) h x):=by
  refine ⟨Le _ (by show 2*x.2≠0;omega),Pf b5,Pw ?_⟩
  exact Dd (b:=20000) (by unfold unB;omega) (by unfold unB;omega) (Ax rfl)
 unfold btQ
 split
 ·unfold Ag0
  split
  ·exact ⟨(by decide:(0:Int)<1),b.bon.mono (by decide),Ax rfl⟩
  ·split
   ·exact ⟨(by decide:(0:Int)<1),(b.bon.mono (by decide)).neg,Ax rfl⟩
   ·exact u
 ·exact u
def Qr (so st fi one two:Int)(rows:List Rw)(w:Wn)(g:Gm):Wn:=fun x=>
 if x=g.b then some ⟨mnQ (wq fi (w g.b)) (Iw so st fi one two rows w g),Tt (w g.b)+1,g.d⟩
 else if x=g.a then some ⟨plQ (wq fi (w g.a)) (Iw so st fi one two rows w g),Tt (w g.a)+1,g.d⟩ else w x
def L3 (so st fi one two:Int)(rows:List Rw):Wn→List Gm→List Sd
 |_,[]=>[]
 |w,g::gs=>⟨g,wq fi (w g.a),wq fi (w g.b),Iw so st fi one two rows w g⟩::L3 so st fi one two rows (Qr so st fi one two rows w g) gs
def Jm (so st fi one two:Int)(rows:List Rw)(w:Wn)(gs:List Gm):Wn:=gs.foldl (Qr so st fi one two rows) w
theorem Ru {so st fi one two:Int}{rows:List Rw}{g:Gm}:∀{gs:List Gm} {w:Wn},L3 so st fi one two rows w (gs++[g])=L3 so st fi one two rows w gs++[⟨g,wq fi (Jm so st fi one two rows w gs g.a),wq fi (Jm so st fi one two rows w gs g.b),Iw so st fi one two rows (Jm so st fi one two rows w gs) g⟩]
 |[],_=>rfl
 |x::gs,w=>by
  show _::L3 so st fi one two rows _ (gs++[g])=_::(L3 so st fi one two rows _ gs++_)
  rw [Ru]
  rfl
theorem Ss {so st fi one two:Int}{rows:List Rw}{g:Gm}{gs:List Gm}{w:Wn}:Jm so st fi one two rows w (gs++[g])=Qr so st fi one two rows (Jm so st fi one two rows w gs) g:=by
 unfold Jm
 rw [List.foldl_append]
 rfl
theorem Aeu {so st fi one two:Int}{rows:List Rw}{w:Wn}{g:Gm}{i:Nat}(tb:Tb rows)(b:Nb st one two)(h0:0≤g.h)(h2:g.h≤2)(h:∀x,WB i (wq fi (w x)))(x:Str):WB (i+1) (wq fi (Qr so st fi one two rows w g x)):=by
 have bb:BB (Iw so st fi one two rows w g):=Y8 (Pj tb _ _) b h0 h2
 unfold Qr
 split
 ·exact Ai7 (h g.b) bb
 ·split
  ·exact Ah3 (h g.a) bb
  ·exact (h x).mono (by omega)
theorem Gu.put {H H':Hp}{W:Addr}{n:Nat}{u:Str→Option Q2}(h:Gu H W n u){kvs:List (Bl×V)}(e:H W=some (.dK kvs)){x y:Str}(ne:x≠y){p1 p2:Addr}{q1 q2:Q2}(s:Sx W H H')(h1:H' p1=some (.tup [.int q1.1,.int q1.2]))(h2:H' p2=some (.tup [.int q2.1,.int q2.2]))
  (e':H' W=some (.dK (Cb (Cb kvs (Sum.inr x) (.ref p1)) (Sum.inr y) (.ref p2)))):Gu H' W (n+2) (fun z=>if z=y then some q2 else if z=x then some q1 else u z):=by
 obtain ⟨kvs',e0,l,a⟩:=h
 rw [e] at e0
 cases e0
 have l1:=By kvs (Sum.inr x) (.ref p1)
 have l2:=By (Cb kvs (Sum.inr x) (.ref p1)) (Sum.inr y) (.ref p2)
 refine ⟨_,e',by omega,fun z=>?_⟩
 by_cases c:z=y
 ·subst c
  refine .inr ⟨q2,p2,if_pos rfl,?_,h2⟩
  rw [Ek,if_pos rfl]
 ·by_cases c':z=x
  ·subst c'
   refine .inr ⟨q1,p1,by show (if z=y then _ else if z=z then _ else _)=_;rw [if_neg c,if_pos rfl],?_,h1⟩
   rw [Ek,if_neg (fun w=>c (Sum.inr.inj w)),Ek,if_pos rfl]
  ·have vz:B1 (Cb (Cb kvs (Sum.inr x) (.ref p1)) (Sum.inr y) (.ref p2)) (Sum.inr z)=B1 kvs (Sum.inr z):=by
    rw [Ek,if_neg (fun w=>c (Sum.inr.inj w)),Ek,if_neg (fun w=>c' (Sum.inr.inj w))]
   rw [vz]
   show ((if z=y then _ else if z=x then _ else u z)=none∧_)∨_
   simp only [if_neg c,if_neg c']
   rcases a z with h|⟨q,p,h3,h4,h5⟩
   ·exact .inl h
   ·exact .inr ⟨q,p,h3,h4,s _ _ (fun w=>by rw [w,e] at h5;cases h5) h5⟩
theorem Gd.put {H H':Hp}{D:Addr}{n:Nat}{v:Str→Option (Nat×Int)}(h:Gd H D n v){kvs:List (Bl×V)}(e:H D=some (.dK kvs)){x:Str}{p:Addr}{xs:List Int}{d:Int}(s:Sx D H H')(h1:H' p=some (.lst ((xs++[d]).map V.int)))(e':H' D=some (.dK (Cb kvs (Sum.inr x) (.ref p)))) :
  Gd H' D (n+1) (fun z=>if z=x then some (xs.length+1,d) else v z):=by
 obtain ⟨kvs',e0,l,a⟩:=h
 rw [e] at e0
 cases e0
 have l1:=By kvs (Sum.inr x) (.ref p)
 refine ⟨_,e',by omega,fun z=>?_⟩
 by_cases c:z=x
 ·subst c
  refine .inr ⟨_,d,p,_,if_pos rfl,?_,h1,by rw [List.length_append];rfl,by simp⟩
  rw [Ek,if_pos rfl]
 ·rw [Ek,if_neg (fun w=>c (Sum.inr.inj w))]
  simp only [if_neg c]
  rcases a z with h|⟨m,l,p',xs',h3,h4,h5,h6⟩
  ·exact .inl h
  ·exact .inr ⟨m,l,p',xs',h3,h4,s _ _ (fun w=>by rw [w,e] at h5;cases h5) h5,h6⟩
def Er (T:Addr)(H:Hp):Hp:=fun b=>if b=T then none else H b
theorem E8 {T:Addr}{H:Hp}:Ai (Er T H) H:=fun b o e=>by
 unfold Er at e
 split at e
 ·cases e
 ·exact e
theorem Iu {T:Addr}{H H1 H2:Hp}(s:Ai (Er T H) H1)(t:∀b o,b≠T→H1 b=some o→H2 b=some o):Ai (Er T H) H2:=fun b o e=>by
 have e':=e
 unfold Er at e
 split at e
 ·cases e
 ·rename_i ne
  exact t b o ne (s b o e')
theorem Di {T b:Addr}{H:Hp}(h:H b=none):Er T H b=none:=by
 unfold Er
 split
 ·rfl
 ·exact h
theorem Ej {H H':Hp}{P x:Addr}{pos:Pos}{q:Str}(h:Ay H P pos q)(s:Sx x H H')(hx:(∃zs,H x=some (.lst zs))∨∃kvs,H x=some (.dK kvs)):Ay H' P pos q:=by
 obtain ⟨ps,h1,h2,h3⟩:=h
 have nP:P≠x:=fun z=>by
  rcases hx with ⟨zs,e⟩|⟨kvs,e⟩<;>(rw [←z,h1] at e;cases e)
 refine ⟨ps,s _ _ nP h1,h2,h3.imp id ?_⟩
 rintro ⟨c,e1,e2⟩
 refine ⟨c,e1,s _ _ (fun z=>?_) e2⟩
 rcases hx with ⟨zs,e⟩|⟨kvs,e⟩<;>(rw [←z,e2] at e;cases e)
def pg (gs:List Gm)(p:List Nat):List Gm:=p.filterMap fun i=>gs[i]?
theorem Sr {H:Hp}{xs:List V}{gs:List Gm}(a:Aw (Ck H) xs gs):∀{p:List Nat},(∀i∈p,i<gs.length)→Aw (Ck H) (pk xs p) (pg gs p)
 |[],_=>.nil
 | i::p,h=>by
  have hi:=h i List.mem_cons_self
  have r:=Sr a (p:=p) fun j hj=>h j (List.mem_cons_of_mem _ hj)
  have hx:i<xs.length:=by rw [a.len];exact hi
  obtain ⟨g,g1,g2⟩:=a.get (List.getElem?_eq_getElem hx)
  have e1:pk xs (i::p)=xs[i]::pk xs p:=by
   unfold pk
   rw [List.map_cons,List.getD_eq_getElem?_getD,List.getElem?_eq_getElem hx]
   rfl
  have e2:pg gs (i::p)=g::pg gs p:=by
   unfold pg
   rw [List.filterMap_cons,g1]
  rw [e1,e2]
  exact .cons g2 r
theorem Jt {gs:List Gm}{p:List Nat}{g:Gm}(h:g∈pg gs p):g∈gs:=by
 obtain ⟨i,_,e⟩:=List.mem_filterMap.mp h
 exact List.mem_of_getElem? e
theorem Tp {so st fi one two:Int}{rows:List Rw}(tb:Tb rows)(b:Nb st one two)(hf:Bd 40 fi):∀{gs:List Gm},(∀g∈gs,0≤g.h∧g.h≤2)→∀{w:Wn} {i:Nat},(∀x,WB i (wq fi (w x)))→∀x,WB (i+gs.length) (wq fi (Jm so st fi one two rows w gs x))
 |[],_,_,_,h=>h
 |g::gs,hg,w,i,h=>fun x=>by
  have h1:=hg g List.mem_cons_self
  have:=Tp (so:=so) tb b hf (gs:=gs) (fun g hg'=>hg g (List.mem_cons_of_mem _ hg')) (w:=Qr so st fi one two rows w g) (i:=i+1) (Aeu tb b h1.1 h1.2 h) x
  rw [List.length_cons,show i+(gs.length+1)=i+1+gs.length by omega]
  exact this
theorem Gu.kt {H H':Hp}{W:Addr}{n:Nat}{u:Str→Option Q2}(h:Gu H W n u)(k:Kt H H')(e:∀o,H W=some o→H' W=some o):Gu H' W n u:=by
 obtain ⟨kvs,e0,l,a⟩:=h
 exact ⟨kvs,e _ e0,l,fun x=>(a x).imp id fun ⟨q,p,h1,h2,h3⟩=>⟨q,p,h1,h2,k _ _ h3⟩⟩
theorem Gd.sx {H H':Hp}{D x:Addr}{n:Nat}{v:Str→Option (Nat×Int)}(h:Gd H D n v)(s:Sx x H H')(ne:D≠x)(hx:∀(xs:List Int) (l:Int),xs.getLast? =some l→H x≠some (.lst (xs.map V.int))):Gd H' D n v:=by
 obtain ⟨kvs,e0,l,a⟩:=h
 exact ⟨kvs,s _ _ ne e0,l,fun x=>(a x).imp id fun ⟨m,l,p,xs,h1,h2,h3,h4,h5⟩=>⟨m,l,p,xs,h1,h2,s _ _ (fun z=>hx xs l h5 (z▸h3)) h3,h4,h5⟩⟩
theorem Sx.kt' {x:Addr}{kvs:List (Bl×V)}{H H':Hp}(a:Sx x H H')(h:H x=some (.dK kvs)):Kt H H':=fun p xs e=>a p _ (fun z=>by rw [z,h] at e;cases e) e
theorem Sx.n {x:Addr}{N H H':Hp}(a:Sx x H H')(s:Ai N H)(h:N x=none):Ai N H':=fun b o e=>a b o (fun z=>by rw [z,h] at e;cases e) (s b o e)
def V2 (w:Wn)(g:Gm):Nat→Str→Option (Nat×Int)
 |0=>wV w
 |1=>fun z=>if z=g.a then some (Tt (w g.a)+1,g.d) else wV w z
 |_=>fun z=>if z=g.b then some (Tt (w g.b)+1,g.d) else if z=g.a then some (Tt (w g.a)+1,g.d) else wV w z
theorem Agr {so st fi one two:Int}{rows:List Rw}{w:Wn}{g:Gm}:wV (Qr so st fi one two rows w g)=V2 w g 2:=by
 funext z
 unfold wV Qr V2
 by_cases c:z=g.b
 ·simp only [if_pos c]
  rfl
 ·by_cases c':z=g.a
  ·simp only [if_neg c,if_pos c']
   rfl
  ·simp only [if_neg c,if_neg c']
   rfl
theorem Y6 {so st fi one two:Int}{rows:List Rw}{w:Wn}{g:Gm}:wU (Qr so st fi one two rows w g)=fun z=>if z=g.b then some (mnQ (wq fi (w g.b)) (Iw so st fi one two rows w g)) else if z=g.a then some (plQ (wq fi (w g.a)) (Iw so st fi one two rows w g)) else wU w z:=by
 funext z
 unfold wU Qr
 by_cases c:z=g.b
 ·simp only [if_pos c]
  rfl
 ·by_cases c':z=g.a
  ·simp only [if_neg c,if_pos c']
   rfl
  ·simp only [if_neg c,if_neg c']
theorem Af9 {w:Wn}{x:Str}{v:Option (Nat×Int)}(h:v=wV w x){xs:List Int}(c:(v=none∧xs=[])∨∃m l,v=some (m,l)∧xs.length=m∧xs.getLast? =some l):xs.length=Tt (w x):=by
 subst h
 rcases c with ⟨h1,rfl⟩|⟨m,l,h1,h4,h5⟩
 ·have:w x=none:=Option.map_eq_none_iff.mp h1
  rw [this]
  rfl
 ·obtain ⟨s,hs,e⟩:=Option.map_eq_some_iff.mp h1
  cases e
  rw [hs]
  exact h4
theorem Ait {so st fi one two:Int}{rows:List Rw}{w:Wn}{g:Gm}{k:Nat}(h:∀x,Tt (w x)≤k)(x:Str):Tt (Qr so st fi one two rows w g x)≤k+1:=by
 unfold Qr
 split
 ·exact Nat.succ_le_succ (h g.b)
 ·split
  ·exact Nat.succ_le_succ (h g.a)
  ·exact Nat.le_succ_of_le (h x)
theorem Adh {so st fi one two:Int}{rows:List Rw}:∀{gs:List Gm} {w:Wn} {k:Nat},(∀x,Tt (w x)≤k)→∀x,Tt (Jm so st fi one two rows w gs x)≤k+gs.length
 |[],_,_,h=>h
 |g::gs,w,k,h=>fun x=>by
  have:=Adh (so:=so) (st:=st) (fi:=fi) (one:=one) (two:=two) (rows:=rows) (gs:=gs) (w:=Qr so st fi one two rows w g) (k:=k+1) (Ait h) x
  rw [List.length_cons,show k+(gs.length+1)=k+1+gs.length by omega]
  exact this
def Q9 (K:PySem.W.Frag)(ns:List Int):Sp:=fun vs H Q _=>match vs with
 |[.ref r,.ref L]=>∃(so st fi one two:Int) (rows:List Rw) (gs:List Gm) (xs:List V),(Hh K (Er (Bi K) H) r so st fi one two rows∧Tb rows∧Nb st one two∧Bd 40 fi∧A0 K (Er (Bi K) H) L xs∧Aw (Ck (Er (Bi K) H)) xs gs∧gs.length≤40∧(∀g∈gs,(0≤g.h∧g.h≤2)∧g.a≠g.b)∧Ay H (Bi K) Bv Fl) ∧
  ∀D vs p H',Rh (Bi K) H H'→H D=none→H' D=some (.lst vs)→Ay H' (Bi K) Bv Fl→Ll (dk gs) gs.length p→Aw (P6 H') vs (L3 so st fi one two rows (fun _=>none) (pg gs p))→Q (.ref D) H'
 |_=>False
theorem Ei:Ao ["rule","games","steps","worths","days","played","step","name"] ["rule","games"] (Ag Ov):=⟨rfl,rfl,rfl,by decide +kernel,rfl,by decide +kernel,by decide +kernel⟩
theorem X9 (d:B0 K mg "trail" Ov ["rule","games"])(er:Bh K mg c_LadderError c_Ledger c_NoBook c_NoFit c_NoGame c_NoNumber c_NoPlayer c_NoRow c_NoTable c_Rule)   (c_in_order:Bf P w K mg base "in_order" ["games"] 3 (Ez K ns))(c_move:Bf P w K mg base "move" ["worths","step"] 4 (O5 K ns))(c_next_step:Bf P w K mg base "next_step" ["rule","worths","days","played"] 8 (Ii K ns)):Bf P w K mg base "trail" ["rule","games"] 9 (Q9 K ns):=by
 refine d.cal (k:=8) Ei (fun vs H Q E h=>?_) (fun f cdv A outer s H vs Q E hr h=>?_)
 ·match vs,h with
  |[.ref r,.ref L],_=>rfl
 ·match vs,h with
  | [.ref r,.ref L],hq0=>
   obtain ⟨so,st,fi,one,two,rows,gs,xs,⟨hR,tb,b,hf,hL,al,l30,ok,tk⟩,k⟩:=hq0
   refine ⟨_,(@Ae _ _ _ _ _ (@Ar _ _ (2) _ _ _ _ Ei.nd rfl (by trivial) (@Em _ _ _ _ Ac) (by rfl) (by trivial)) (@Ae _ _ _ _ _ (@Ar _ _ (3) _ _ _ _ Ei.nd rfl (by trivial) Gw (by rfl) (by trivial)) (@Ae _ _ _ _ _ (@Ar _ _ (4) _ _ _ _ Ei.nd rfl (by trivial) Gw (by rfl) (by trivial)) (@Ae _ _ _ _ _ (@Gk _ _ _ _ _ _ _ _ PassesOwn.never rfl (@Db _ _ _ _ (@An _ _ _ _ _ _ _ _ _ _ _ c_in_order hr (by decide) (by rfl) (@Aa _ _ _ _ _ (dv 1) Ac (by rfl)) (by decide) (by rfl) (by rfl))) (@Bb _ _ (5) _ Ei.nd rfl (by trivial) (by trivial)) (@Ae _ _ _ _ _ (@Ar _ _ (6) _ _ _ _ Ei.nd rfl (by trivial) (@An _ _ _ _ _ _ _ _ _ _ _ c_next_step hr (by decide) (by rfl) (@Aa _ _ _ _ _ (dv 0) (@Aa _ _ _ _ _ (dv 3) (@Aa _ _ _ _ _ (dv 4) (@Aa _ _ _ _ _ (dv 5) Ac (by rfl)) (by rfl)) (by rfl)) (by rfl)) (by decide) (by rfl) (by rfl)) (by rfl) (by trivial)) (@Ae _ _ _ _ _ (@Ci _ _ _ _ (@Kz _ _ _ _ _ _ _ _ _ _ _ _ PySem.F.plainAttrs_list PySem.F.slot_list_append PySem.F.type_list_append D5 (dv 2) (@Aa _ _ _ _ _ (dv 6) Ac (by rfl)) (by rfl) (by rfl) (by rfl) (by rfl) (by rfl)) (by rfl)) (@Ae _ _ _ _ _ (@Ci _ _ _ _ (@An _ _ _ _ _ _ _ _ _ _ _ c_move hr (by decide) (by rfl) (@Aa _ _ _ _ _ (dv 3) (@Aa _ _ _ _ _ (dv 6) Ac (by rfl)) (by rfl)) (by decide) (by rfl) (by rfl)) (by rfl)) (@Af _ _ _ (@Gk _ _ _ _ _ _ _ _ PassesOwn.never rfl (@Af6 _ _ _ _ (@Cg _ _ _ _ _ _ _ _ _ _ Tm (dv 5) (B5 Ab) (B5 Ab))) (@Bb _ _ (7) _ Ei.nd rfl (by trivial) (by trivial)) (@Af _ _ _ (@Hb _ _ _ _ _ _ _ _ _ (@u1 _ _ hr.units) (dv 4) (dv 7) (@Aj _ _ _ _ _ _ _ _ Mw (@Gc _ _ _ _ _ _ _ _ _ (@u1 _ _ hr.units) (dv 4) (dv 7) (@Em _ _ _ _ Ac) ⟨rfl,rfl,rfl,rfl⟩) (@F5 _ _ _ _ (@Aa _ _ _ _ _ (@Am _ _ _ _ _ _ _ Au (dv 5) Ab (fun _ _=>rfl)) Ac (by rfl)))) rfl)) (by intro _;rfl)))))) (by intro _;rfl)) (@Af _ _ _ (@At _ _ _ _ (dv 2))))))),?_⟩
   refine ⟨by decide,fun S hS=>fun W hW=>fun D hD=>?_⟩
   have s1:Ai H (upd H S (.lst [])):=Al hS
   have s2:=s1.trans (Al (o:=.dK []) hW)
   have s3:=s2.trans (Al (o:=.dK []) hD)
   have nWS:W≠S:=fun z=>by rw [z,Ad] at hW;cases hW
   have nDS:D≠S:=fun z=>by rw [z,Ak (Ne.symm nWS),Ad] at hD;cases hD
   have nDW:D≠W:=fun z=>by rw [z,Ad] at hD;cases hD
   have eS:upd (upd (upd H S (.lst [])) W (.dK [])) D (.dK []) S=some (.lst []):=by rw [Ak (Ne.symm nDS),Ak (Ne.symm nWS),Ad]
   have eW:upd (upd (upd H S (.lst [])) W (.dK [])) D (.dK []) W=some (.dK []):=by rw [Ak (Ne.symm nDW),Ad]
   have eD:upd (upd (upd H S (.lst [])) W (.dK [])) D (.dK []) D=some (.dK []):=Ad
   have hW0:H W=none:=Bt s1 hW
   have hD0:H D=none:=Bt s2 hD
   generalize upd (upd (upd H S (.lst [])) W (.dK [])) D (.dK [])=H3 at s3 eS eW eD
   clear s1 s2 hW hD
   obtain ⟨N,hN⟩:∃N,N=Er (Bi K) H:=⟨_,rfl⟩
   have sN:Ai N H:=hN▸E8
   have sN3:=sN.trans s3
   have nS:N S=none:=hN▸Di hS
   have nW:N W=none:=hN▸Di hW0
   have nD:N D=none:=hN▸Di hD0
   rw [←hN] at hR hL al
   refine ⟨gs,xs,⟨sN3.seq hL,al.imp fun v g r=>Dj v g _ _ (A6 sN3) r,by omega,tk.up s3⟩,fun Dl H4 p sm nDl eDl tk4 stb=>?_⟩
   obtain ⟨ps,tt,_⟩:=tk.up s3
   have ne4:∀{b:Addr} {o:HO},H3 b=some o→(∀ps,o≠.tbl ps)→H4 b=some o:=fun e c=>sm _ _ (fun z=>c ps (by rw [z,tt] at e;exact (Option.some.inj e).symm)) e
   have sN4:Ai N H4:=by
    rw [hN]
    exact Iu (hN▸sN3) sm
   have eS4:=ne4 eS (fun _=>nofun)
   have eW4:=ne4 eW (fun _=>nofun)
   have eD4:=ne4 eD (fun _=>nofun)
   have dS:Dl≠S:=fun z=>by rw [z,eS] at nDl;cases nDl
   have dW:Dl≠W:=fun z=>by rw [z,eW] at nDl;cases nDl
   have dD:Dl≠D:=fun z=>by rw [z,eD] at nDl;cases nDl
   have aG:Aw (Ck N) (pk xs p) (pg gs p):=Sr al fun i hi=>stb.2.1 i hi
   have okG:∀g∈pg gs p,(0≤g.h∧g.h≤2)∧g.a≠g.b:=fun g hg=>ok g (Jt hg)
   have lG:(pg gs p).length≤40:=by
    have:=aG.len
    have z:(pk xs p).length=p.length:=by unfold pk;rw [List.length_map]
    have:=stb.1
    omega
   generalize hG:pg gs p=G at aG okG lG
   have w0:∀x,WB 0 (wq fi ((fun _=>none:Wn) x)):=fun x=>⟨(by decide:(0:Int)<1),hf.mono (by decide),Ax rfl⟩
   refine ⟨Dl,rfl,⟨_,A0.of eDl⟩,Il (K:=K) (a:=Dl) (xs:=pk xs p) (fun i σ H'=>∃(vs:List V) (o5 o6 o7:Option V),σ=[some (.ref r),some (.ref L),some (.ref S),some (.ref W),some (.ref D),o5,o6,o7]∧Ai N H'∧Ay H' (Bi K) Bv Fl∧H' Dl=some (.lst (pk xs p))∧H' S=some (.lst vs)∧Aw (P6 H') vs (L3 so st fi one two rows (fun _=>none) (G.take i))∧Gu H' W (2*i) (wU (Jm so st fi one two rows (fun _=>none) (G.take i)))∧Gd H' D (2*i) (wV (Jm so st fi one two rows (fun _=>none) (G.take i)))) ?_ (fun i σ H' _ ⟨_,_,_,_,_,_,_,e,_⟩=>A0.of e) ?_ ?_⟩
   ·exact ⟨[],none,none,none,rfl,sN4,tk4,eDl,eS4,.nil,⟨[],eW4,Nat.zero_le _,fun x=>.inl ⟨rfl,rfl⟩⟩,⟨[],eD4,Nat.zero_le _,fun x=>.inl ⟨rfl,rfl⟩⟩⟩
   ·rintro i v σ H5 hv ⟨vs,o5,o6,o7,rfl,sN5,tk5,eDl5,eS5,aS5,ws,dy⟩
    obtain ⟨g,hg,pg',rfl,hpg⟩:=aG.get hv
    obtain ⟨⟨h0,h2⟩,ab⟩:=okG g (List.mem_of_getElem? hg)
    have il:i<G.length:=(List.getElem?_eq_some_iff.mp hg).1
    have tk':G.take (i+1)=G.take i++[g]:=by rw [List.take_add_one,hg];rfl
    have wb:∀x,WB i (wq fi (Jm so st fi one two rows (fun _=>none) (G.take i) x)):=fun x=>by
     have:=Tp (so:=so) tb b hf (gs:=G.take i) (fun g hg=>(okG g (List.mem_of_mem_take hg)).1) w0 x
     rw [List.length_take,Nat.zero_add,Nat.min_eq_left (Nat.le_of_lt il)] at this
     exact this
    have wn:∀x,Tt (Jm so st fi one two rows (fun _=>none) (G.take i) x)≤40:=fun x=>by
     have:=Adh (so:=so) (st:=st) (fi:=fi) (one:=one) (two:=two) (rows:=rows) (gs:=G.take i) (w:=fun _=>none) (k:=0) (fun _=>Nat.le_refl _) x
     rw [List.length_take] at this
     omega
    rw [tk',Ru,Ss]
    generalize Jm so st fi one two rows (fun _=>none) (G.take i)=w at ws dy wb wn
    refine ⟨so,st,fi,one,two,rows,w,2*i,g,⟨hR.up sN5,tb,b,ws,dy,sN5 _ _ hpg,h0,h2,(wb _).sq (by omega),(wb _).sq (by omega)⟩,fun sv H6 s6 sd=>?_⟩
    have eS6:=s6 _ _ eS5
    have lvs:vs.length≤40:=by
     have:=aS5.len
     have z:∀(w:Wn) (l:List Gm),(L3 so st fi one two rows w l).length=l.length:=fun w l=>by
      induction l generalizing w with
      |nil=>rfl
      |cons g l ih=>show (L3 so st fi one two rows _ l).length+1=_;rw [ih];rfl
     rw [this,z,List.length_take]
     omega
    refine ⟨.inl ⟨rfl,_,A0.of eS6⟩,S,vs,sv,rfl,rfl,eS6,Nat.lt_of_le_of_lt lvs (by decide),?_⟩
    have ws6:=ws.up s6
    have dy6:=dy.up s6
    have noS:∀(xs:List Int) (l:Int),xs.getLast? =some l→H6 S≠some (.lst (xs.map V.int)):=fun xs l hl z=>by
     rw [eS6] at z
     cases z
     cases xs with
     |nil=>cases hl
     |cons y xs=>
      obtain ⟨_,_,t,_,_,_,_,e,_⟩:=aS5.get (show ((y::xs).map V.int)[0]? =some (.int y) from rfl)
      cases e
    have x7:Sx S H6 (upd H6 S (.lst (vs++[sv]))):=Sx.upd
    have kt7:Kt H6 (upd H6 S (.lst (vs++[sv]))):=E6 eS6
    have sN7:Ai N (upd H6 S (.lst (vs++[sv]))):=Bs (sN5.trans s6) nS
    have tk7:Ay (upd H6 S (.lst (vs++[sv]))) (Bi K) Bv Fl:=Ej (tk5.up s6) x7 (.inl ⟨_,eS6⟩)
    have eDl7:upd H6 S (.lst (vs++[sv])) Dl=some (.lst (pk xs p)):=x7 _ _ dS (s6 _ _ eDl5)
    have eS7:upd H6 S (.lst (vs++[sv])) S=some (.lst (vs++[sv])):=Ad
    have aS7:Aw (P6 (upd H6 S (.lst (vs++[sv])))) (vs++[sv]) (L3 so st fi one two rows (fun _=>none) (G.take i)++[⟨g,wq fi (w g.a),wq fi (w g.b),Iw so st fi one two rows w g⟩]):=(aS5.imp fun v g r=>Lx v g _ _ ((A6 s6).trans kt7) r).snoc (Lx _ _ _ _ kt7 sd)
    have ws7:=ws6.kt kt7 fun o e=>x7 _ _ nWS e
    have dy7:=dy6.sx x7 nDS noS
    have sd7:=Lx _ _ _ _ kt7 sd
    generalize upd H6 S (.lst (vs++[sv]))=H7 at sN7 tk7 eDl7 eS7 aS7 ws7 dy7 sd7
    clear noS
    have bb:BB (Iw so st fi one two rows w g):=Y8 (Pj tb _ _) b h0 h2
    have ws7':=ws7
    obtain ⟨kvs,eW7,lk,_⟩:=ws7'
    refine ⟨kvs,⟨g,wq fi (w g.a),wq fi (w g.b),Iw so st fi one two rows w g⟩,⟨eW7,by omega,sd7,(wb _).sq (by omega),(wb _).sq (by omega),bb.sq (by decide)⟩,fun p1 p2 H8 s8 m1 m2 q1 q2 eW8=>?_⟩
    have ws8:=ws7.put eW7 ab s8 q1 q2 eW8
    have kt8:=s8.kt' eW7
    have sN8:=s8.n sN7 nW
    have tk8:=Ej tk7 s8 (.inr ⟨_,eW7⟩)
    have eDl8:=s8 _ _ dW eDl7
    have eS8:=s8 _ _ (Ne.symm nWS) eS7
    have aS8:=aS7.imp fun v g r=>Lx v g _ _ kt8 r
    have dy8:=dy7.sx s8 nDW (fun xs l _ z=>by rw [eW7] at z;cases z)
    clear kt8 s8
    refine ⟨_,rfl,_,rfl,pg',_,rfl,Ed.of (sN8 _ _ hpg),(by show ¬(HT.sIx 5 0 (some 1)=0∧HT.sIx 5 5 (some 3)=5);decide),fun t ht=>?_⟩
    rw [show Dn [V.int g.d,V.str g.a,V.str g.b,V.int g.h,V.int g.s] (some 1) (some 3)=[V.str g.a,V.str g.b] from rfl]
    have s9:Ai H8 (upd H8 t (.tup [.str g.a,.str g.b])):=Al ht
    have e9:upd H8 t (.tup [.str g.a,.str g.b]) t=some (.tup [.str g.a,.str g.b]):=Ad
    have ws8':Gu H8 W (2*i+2) (wU (Qr so st fi one two rows w g)):=by
     rw [Y6]
     exact ws8
    refine ⟨t,rfl,⟨_,Ed.of e9⟩,Acn (K:=K) (a:=t) (xs:=[.str g.a,.str g.b]) (fun j σ H'=>∃o7:Option V,σ=[some (.ref r),some (.ref L),some (.ref S),some (.ref W),some (.ref D),some (.ref pg'),some sv,o7]∧Ai N H'∧Ay H' (Bi K) Bv Fl∧H' t=some (.tup [.str g.a,.str g.b])∧H' Dl=some (.lst (pk xs p))∧H' S=some (.lst (vs++[sv]))∧Aw (P6 H') (vs++[sv]) (L3 so st fi one two rows (fun _=>none) (G.take i)++[⟨g,wq fi (w g.a),wq fi (w g.b),Iw so st fi one two rows w g⟩])∧Gu H' W (2*i+2) (wU (Qr so st fi one two rows w g))∧Gd H' D (2*i+j) (V2 w g j)) ⟨o7,rfl,sN8.trans s9,tk8.up s9,e9,s9 _ _ eDl8,s9 _ _ eS8,aS8.imp fun v g r=>Lx v g _ _ (A6 s9) r,ws8'.up s9,dy8.up s9⟩ (fun j σ H' _ ⟨_,_,_,_,e,_⟩=>Ed.of e) ?_ ?_⟩
    ·rintro j u σ H10 hu ⟨o7',rfl,sNa,tka,ea,eDla,eSa,aSa,wsa,dya⟩
     obtain ⟨x,rfl,jx⟩:∃x,u=.str x∧((j=0∧x=g.a)∨(j=1∧x=g.b)):=by
      match j,hu with
      |0,hu=>cases hu;exact ⟨_,rfl,.inl ⟨rfl,rfl⟩⟩
      |1,hu=>cases hu;exact ⟨_,rfl,.inr ⟨rfl,rfl⟩⟩
     have dya':=dya
     obtain ⟨kva,eDa,lka,_⟩:=dya'
     refine ⟨D,rfl,.inl ⟨_,.inl eDa⟩,by decide,fun T0 hT0=>?_⟩
     have sb:Ai H10 (upd H10 T0 (.lst [])):=Al hT0
     have eb:upd H10 T0 (.lst []) T0=some (.lst []):=Ad
     generalize upd H10 T0 (.lst [])=H11 at sb eb
     obtain ⟨o,pl,ys,dg,gd,ey,cy⟩:=(dya.up sb).get' x eb
     refine ⟨o,dg,?_⟩
     rw [gd]
     refine ⟨_,(sNa.trans sb) _ _ hpg,fun Lq H12 sc ec=>?_⟩
     have ly:ys.length=Tt (w x):=by
      refine Af9 ?_ cy
      rcases jx with ⟨rfl,rfl⟩|⟨rfl,rfl⟩
      ·rfl
      ·exact if_neg (Ne.symm ab)
     have y60:ys.length≤900:=by
      have:=wn x
      omega
     refine ⟨_,_,sc _ _ ey,ec,by rw [List.length_map];show ys.length+1≤1000;omega,fun pn H13 sd' ed=>?_⟩
     have ed:H13 pn=some (.lst ((ys++[g.d]).map V.int)):=by
      rw [ed,List.map_append]
      rfl
     have sbd:=sb.trans (sc.trans sd')
     have eDd:=sbd _ _ eDa
     refine ⟨D,_,rfl,Nk.k (k:=Sum.inr x) eDd ?_,?_⟩
     ·exact Nat.lt_of_le_of_lt (show _≤100 by omega) (by decide)
     have xe:Sx D H13 (upd H13 D (.dK (Cb kva (Sum.inr x) (.ref pn)))):=Sx.upd
     have npn:pn≠D:=fun z=>by rw [z,eDd] at ed;cases ed
     have kte:=xe.kt' eDd
     have dye:=(dya.up sbd).put eDd xe (by rw [Ak npn];exact ed) Ad
     refine ⟨_,rfl,xe.n (sNa.trans sbd) nD,Ej (tka.up sbd) xe (.inr ⟨_,eDd⟩),kte _ _ (sbd _ _ ea),xe _ _ dD (sbd _ _ eDla),xe _ _ (Ne.symm nDS) (sbd _ _ eSa),aSa.imp fun v g r=>Lx v g _ _ ((A6 sbd).trans kte) r,(wsa.up sbd).kt kte fun o e=>xe _ _ (Ne.symm nDW) e,?_⟩
     rw [ly] at dye
     rcases jx with ⟨rfl,rfl⟩|⟨rfl,rfl⟩
     ·exact dye
     ·exact dye
    ·rintro σ H10 ⟨o7',rfl,sNa,tka,ea,eDla,eSa,aSa,wsa,dya⟩
     refine ⟨vs++[sv],_,_,_,rfl,sNa,tka,eDla,eSa,aSa,wsa,?_⟩
     rw [Agr]
     exact dya
   ·rintro σ H5 ⟨vs,o5,o6,o7,rfl,sN5,tk5,eDl5,eS5,aS5,ws,dy⟩
    rw [aG.len,List.take_length,←hG] at aS5
    exact k S vs p H5 (fun b o ne e=>sN5 b o (by rw [hN];unfold Er;rw [if_neg ne];exact e)) hS eS5 tk5 stb aS5
theorem J9 {T b:Addr}{H:Hp}{o:HO}{ps:Array Value}(t:H T=some (.tbl ps))(e:H b=some o)(n:∀ps,o≠.tbl ps):Er T H b=some o:=by
 unfold Er
 rw [if_neg fun z=>?_]
 ·exact e
 ·rw [z,t] at e
  exact n ps (Option.some.inj e).symm
theorem Zy {K:PySem.W.Frag}{T a:Addr}{H:Hp}{xs:List V}{ps:Array Value}(t:H T=some (.tbl ps))(h:A0 K H a xs):A0 K (Er T H) a xs:=by
 rcases h with h|h
 ·refine .inl ?_
  rcases h with h|⟨ob,h⟩
  ·exact .inl (J9 t h fun _=>nofun)
  ·exact .inr ⟨ob,J9 t h fun _=>nofun⟩
 ·exact .inr h
theorem Ya {T:Addr}{H:Hp}{ps:Array Value}(t:H T=some (.tbl ps)):Kt H (Er T H):=fun p xs e=>J9 t e fun _=>nofun
theorem Afp {K:PySem.W.Frag}{T r:Addr}{H:Hp}{ps:Array Value}{so st fi one two:Int}{rows:List Rw}(t:H T=some (.tbl ps)):Hh K H r so st fi one two rows→Hh K (Er T H) r so st fi one two rows:=fun ⟨C,dx,fs,T',e,kn,f,vs,h1,h2⟩=>⟨C,dx,fs,T',J9 t e fun _=>nofun,kn,f,vs,Zy t h1,h2.imp fun v g r=>Dv v g _ _ (Ya t) r⟩
theorem Lm {T:Addr}{H H':Hp}(s:Ai (Er T H) H'):Ai (Er T H) (Er T H'):=fun b o e=>by
 have e':=s b o e
 unfold Er at e ⊢
 split at e
 ·cases e
 ·rename_i ne
  rw [if_neg ne]
  exact e'
structure Al3 (nm:List Str)(gs:List Gm):Prop where
 ok:∀g∈gs,(0≤g.h∧g.h≤2)∧g.a≠g.b
 mem:∀g∈gs,g.a∈nm∧g.b∈nm
theorem Vz {so st fi one two:Int}{rows:List Rw}{m:List Gm}:∀{l:List Gm} {w:Wn},L3 so st fi one two rows w (l++m)=L3 so st fi one two rows w l++L3 so st fi one two rows (Jm so st fi one two rows w l) m
 |[],_=>rfl
 |x::l,w=>by
  show _::L3 so st fi one two rows _ (l++m)=_::(L3 so st fi one two rows _ l++_)
  rw [Vz]
  rfl
theorem Pr {so st fi one two:Int}{rows:List Rw}:∀{l:List Gm} {w:Wn},(L3 so st fi one two rows w l).length=l.length
 |[],_=>rfl
 |x::l,w=>congrArg (· + 1) Pr
theorem Ab2 {so st fi one two:Int}{rows:List Rw}{w:Wn}{G:List Gm}{i:Nat}{g:Gm}(h:G[i]? =some g):(L3 so st fi one two rows w G)[i]? =some ⟨g,wq fi (Jm so st fi one two rows w (G.take i) g.a),wq fi (Jm so st fi one two rows w (G.take i) g.b),Iw so st fi one two rows (Jm so st fi one two rows w (G.take i)) g⟩:=by
 obtain ⟨hi,rfl⟩:=List.getElem?_eq_some_iff.mp h
 have e:G=G.take i++G[i]::G.drop (i+1):=by
  rw [←List.drop_eq_getElem_cons hi,List.take_append_drop]
 have l:(L3 so st fi one two rows w (G.take i)).length=i:=by rw [Pr,List.length_take];omega
 have z:L3 so st fi one two rows w G=L3 so st fi one two rows w (G.take i)++L3 so st fi one two rows (Jm so st fi one two rows w (G.take i)) (G[i]::G.drop (i+1)):=by
  rw [←Vz,←e]
 rw [z,List.getElem?_append_right (by omega),l,Nat.sub_self]
 rfl
def Nr (H:Hp)(v:V)(x:Str×Q2):Prop:=∃t p,v=.ref t∧H t=some (.tup [.str x.1,.ref p])∧H p=some (.tup [.int x.2.1,.int x.2.2])
theorem Sf (v:V)(x:Str×Q2)(H H':Hp)(k:Kt H H')(h:Nr H v x):Nr H' v x:=by
 obtain ⟨t,p,e,h0,h1⟩:=h
 exact ⟨t,p,e,k _ _ h0,k _ _ h1⟩
def Ajy (H:Hp)(W:Addr)(l:List Str):Prop:=∃kvs,H W=some (.dK kvs)∧kvs.map (·.1)=l.map Sum.inr∧l.Nodup
def pls (gs:List Gm)(x:Str):Prop:=∃g∈gs,x=g.a∨x=g.b
theorem Yf {gs:List Gm}{g:Gm}{x:Str}:pls (gs++[g]) x↔(pls gs x∨x=g.a)∨x=g.b:=by
 constructor
 ·rintro ⟨g',h,c⟩
  rcases List.mem_append.mp h with h|h
  ·exact .inl (.inl ⟨g',h,c⟩)
  ·cases List.mem_singleton.mp h
   exact c.imp .inr id
 ·rintro ((⟨g',h,c⟩|h)|h)
  ·exact ⟨g',List.mem_append_left _ h,c⟩
  ·exact ⟨g,List.mem_append_right _ (List.mem_singleton.mpr rfl),.inl h⟩
  ·exact ⟨g,List.mem_append_right _ (List.mem_singleton.mpr rfl),.inr h⟩
theorem Lk {gs:List Gm}{p:List Nat}(h:Ll (dk gs) gs.length p){g:Gm}:g∈pg gs p↔g∈gs:=by
 refine ⟨Jt,fun hg=>?_⟩
 obtain ⟨i,hi,rfl⟩:=List.getElem_of_mem hg
 refine List.mem_filterMap.mpr ⟨i,((M4 h).mem_iff).mpr (List.mem_range.mpr hi),List.getElem?_eq_getElem hi⟩
theorem R8 {so st fi one two:Int}{rows:List Rw}{w:Wn}{g:Gm}{x:Str}(h:(w x).isSome∨x=g.a∨x=g.b):(Qr so st fi one two rows w g x).isSome:=by
 unfold Qr
 by_cases c:x=g.b
 ·rw [if_pos c]
  rfl
 ·rw [if_neg c]
  by_cases c':x=g.a
  ·rw [if_pos c']
   rfl
  ·rw [if_neg c']
   rcases h with h|h|h
   ·exact h
   ·exact absurd h c'
   ·exact absurd h c
theorem Rs {so st fi one two:Int}{rows:List Rw}:∀{gs:List Gm} {w:Wn} {x:Str},(w x).isSome∨pls gs x→(Jm so st fi one two rows w gs x).isSome
 |[],_,_,h=>by
  rcases h with h|⟨g,h,_⟩
  ·exact h
  ·cases h
 | g::gs,w,x,h=>by
  refine Rs (gs:=gs) (w:=Qr so st fi one two rows w g) ?_
  rcases h with h|⟨g',h,c⟩
  ·exact .inl (R8 (.inl h))
  ·rcases List.mem_cons.mp h with rfl|h
   ·exact .inl (R8 (.inr c))
   ·exact .inr ⟨g',h,c⟩
theorem U0 {H:Hp}{f:Str→Q2}:∀{l:List Str} {ys:List V},Aw (fun x y=>Nr H y (x,f x)) l ys→Aw (Nr H) ys (l.map fun x=>(x,f x))
 |_,_,.nil=>.nil
 |_,_,.cons h t=>.cons h (U0 t)
theorem Oh:∀(l:List Str),Aw (fun v m=>v=V.str m) (l.map V.str) l
 |[]=>.nil
 |_::l=>.cons rfl (Oh l)
def Mp (K:PySem.W.Frag)(ns:List Int):Sp:=fun vs H Q _=>match vs with
 |[.ref r,.ref L]=>∃(so st fi one two:Int) (rows:List Rw) (gs:List Gm) (xs:List V),(Hh K (Er (Bi K) H) r so st fi one two rows∧Tb rows∧Nb st one two∧Bd 40 fi∧A0 K (Er (Bi K) H) L xs∧Aw (Ck (Er (Bi K) H)) xs gs∧gs.length≤40∧(C7 gs).length≤8∧(∀g∈gs,(0≤g.h∧g.h≤2)∧g.a≠g.b)∧Ay H (Bi K) Bv Fl) ∧
  ∀D vs p H',Rh (Bi K) H H'→H D=none→H' D=some (.lst vs)→Ay H' (Bi K) Bv Fl→Ll (dk gs) gs.length p→Aw (Nr H') vs ((C7 gs).map fun x=>(x,wq fi (Jm so st fi one two rows (fun _=>none) (pg gs p) x)))→Q (.ref D) H'
 |_=>False
theorem Hn:Ao ["rule","games","worths","step"] ["rule","games"] (Ag Jv):=⟨rfl,rfl,rfl,by decide +kernel,rfl,by decide +kernel,by decide +kernel⟩
theorem Ta (d:B0 K mg "running" Jv ["rule","games"])(er:Bh K mg c_LadderError c_Ledger c_NoBook c_NoFit c_NoGame c_NoNumber c_NoPlayer c_NoRow c_NoTable c_Rule)(n_sorted:mg "sorted"=none)  (c_trail:Bf P w K mg base "trail" ["rule","games"] 9 (Q9 K ns))(c_move:Bf P w K mg base "move" ["worths","step"] 4 (O5 K ns)):Bf P w K mg base "running" ["rule","games"] 10 (Mp K ns):=by
 refine d.cal (k:=9) Hn (fun vs H Q E h=>?_) (fun f cdv A outer s H vs Q E hr h=>?_)
 ·match vs,h with
  |[.ref r,.ref L],_=>rfl
 ·match vs,h with
  | [.ref r,.ref L],hq0=>
   obtain ⟨so,st,fi,one,two,rows,gs,xs,⟨hR,tb,b,hf,hL,al,l30,l8,ok,tk⟩,k⟩:=hq0
   refine ⟨_,(@Ae _ _ _ _ _ (@Ar _ _ (2) _ _ _ _ Hn.nd rfl (by trivial) Gw (by rfl) (by trivial)) (@Ae _ _ _ _ _ (@Gk _ _ _ _ _ _ _ _ PassesOwn.never rfl (@Db _ _ _ _ (@An _ _ _ _ _ _ _ _ _ _ _ c_trail hr (by decide) (by rfl) (@Aa _ _ _ _ _ (dv 0) (@Aa _ _ _ _ _ (dv 1) Ac (by rfl)) (by rfl)) (by decide) (by rfl) (by rfl))) (@Bb _ _ (3) _ Hn.nd rfl (by trivial) (by trivial)) (@Af _ _ _ (@Ci _ _ _ _ (@An _ _ _ _ _ _ _ _ _ _ _ c_move hr (by decide) (by rfl) (@Aa _ _ _ _ _ (dv 2) (@Aa _ _ _ _ _ (dv 3) Ac (by rfl)) (by rfl)) (by decide) (by rfl) (by rfl)) (by rfl))) (by intro _;rfl)) (@Af _ _ _ (@At _ _ _ _ (@Fw _ _ _ _ _ _ _ _ _ _ ["name"] ["worths"] [2] rfl (@Db _ _ _ _ (@Aq _ _ _ _ _ _ _ _ _ Abc (by rfl) n_sorted (by decide +kernel) (@Aa _ _ _ _ _ (dv 2) Ac (by rfl)) (by decide) (by decide) (by rfl) (by rfl))) (fun C s H fp=>(@Bb _ _ (0) _ (show List.Nodup [("name":Str),("worths":Str)] by decide +kernel) rfl (by trivial) (by trivial))) (fun C s H fp=>(@Cj _ _ _ _ _ (@Aa _ _ _ _ _ (dv 0) (@Aa _ _ _ _ _ (@G8 _ _ _ _ _ _ (@u1 _ _ hr.units) (dv 1) (dv 0) (fun _ _=>rfl)) Ac (by rfl)) (by rfl)))) rfl rfl (by decide +kernel) (by decide +kernel) (by rfl) ⟨rfl,True.intro⟩ ⟨⟨rfl,rfl,rfl,rfl⟩,True.intro⟩ (by intro _;rfl)))))),?_⟩
   refine fun W hW=>?_
   have s1:Ai H (upd H W (.dK [])):=Al hW
   have eW:upd H W (.dK []) W=some (.dK []):=Ad
   generalize upd H W (.dK [])=H1 at s1 eW
   obtain ⟨N,hN⟩:∃N,N=Er (Bi K) H:=⟨_,rfl⟩
   have sN:Ai N H:=hN▸E8
   have sN1:=sN.trans s1
   have nW:N W=none:=hN▸Di hW
   rw [←hN] at hR hL al
   have tk1:=tk.up s1
   obtain ⟨ps,tt,_⟩:=id tk1
   have sO:Ai N (Er (Bi K) H1):=by
    rw [hN] at sN1 ⊢
    exact Lm sN1
   refine ⟨so,st,fi,one,two,rows,gs,xs,⟨hR.up sO,tb,b,hf,sO.seq hL,al.imp fun v g r=>Dj v g _ _ (A6 sO) r,l30,ok,tk1⟩,fun F vs p H2 sm nF eF tk2 stb aF=>?_⟩
   have ne2:∀{b:Addr} {o:HO},H1 b=some o→(∀ps,o≠.tbl ps)→H2 b=some o:=fun e c=>sm _ _ (fun z=>c ps (by rw [z,tt] at e;exact (Option.some.inj e).symm)) e
   have sN2:Ai N H2:=by
    rw [hN]
    exact Iu (hN▸sN1) sm
   have eW2:=ne2 eW (fun _=>nofun)
   have dF:F≠W:=fun z=>by rw [z,eW] at nF;cases nF
   have mG:∀x,pls (pg gs p) x↔pls gs x:=fun x=>⟨fun ⟨g,h,c⟩=>⟨g,(Lk stb).mp h,c⟩,fun ⟨g,h,c⟩=>⟨g,(Lk stb).mpr h,c⟩⟩
   have okG:∀g∈pg gs p,(0≤g.h∧g.h≤2)∧g.a≠g.b:=fun g hg=>ok g (Jt hg)
   have lG:(pg gs p).length≤40:=by
    have:=(Sr al fun i hi=>stb.2.1 i hi).len
    have z:(pk xs p).length=p.length:=by unfold pk;rw [List.length_map]
    have:=stb.1
    omega
   have k:=k (p:=p)
   generalize hG:pg gs p=G at aF okG lG mG
   have w0:∀x,WB 0 (wq fi ((fun _=>none:Wn) x)):=fun x=>⟨(by decide:(0:Int)<1),hf.mono (by decide),Ax rfl⟩
   have lF:vs.length=G.length:=by rw [aF.len,Pr]
   refine ⟨F,rfl,⟨_,A0.of eF⟩,Il (K:=K) (a:=F) (xs:=vs) (fun i σ H'=>∃(l:List Str) (o3:Option V),σ=[some (.ref r),some (.ref L),some (.ref W),o3]∧Ai N H'∧Ay H' (Bi K) Bv Fl∧H' F=some (.lst vs)∧Aw (P6 H') vs (L3 so st fi one two rows (fun _=>none) G)∧Ajy H' W l∧(∀x,x∈l↔pls (G.take i) x)∧Gu H' W (2*i) (wU (Jm so st fi one two rows (fun _=>none) (G.take i)))) ?_ (fun i σ H' _ ⟨_,_,_,_,_,e,_⟩=>A0.of e) ?_ ?_⟩
   ·exact ⟨[],none,rfl,sN2,tk2,eF,aF,⟨[],eW2,rfl,.nil⟩,fun x=>⟨fun h=>by (cases h),fun ⟨g,h,_⟩=>by (cases h)⟩,⟨[],eW2,Nat.zero_le _,fun x=>.inl ⟨rfl,rfl⟩⟩⟩
   ·rintro i v σ H3 hv ⟨l,o3,rfl,sN3,tk3,eF3,aF3,⟨kvs,eW3,ek,nd⟩,ml,ws⟩
    have il:i<G.length:=by
     have:=(List.getElem?_eq_some_iff.mp hv).1
     omega
    have hg:G[i]? =some G[i]:=List.getElem?_eq_getElem il
    obtain ⟨s,hs,sd⟩:=aF3.get hv
    rw [Ab2 hg] at hs
    cases hs
    generalize G[i]=g at hg sd
    obtain ⟨⟨h0,h2⟩,ab⟩:=okG g (List.mem_of_getElem? hg)
    have tk':G.take (i+1)=G.take i++[g]:=by rw [List.take_add_one,hg];rfl
    have wb:∀x,WB i (wq fi (Jm so st fi one two rows (fun _=>none) (G.take i) x)):=fun x=>by
     have:=Tp (so:=so) tb b hf (gs:=G.take i) (fun g hg=>(okG g (List.mem_of_mem_take hg)).1) w0 x
     rw [List.length_take,Nat.zero_add,Nat.min_eq_left (Nat.le_of_lt il)] at this
     exact this
    rw [tk',Ss]
    generalize hw:Jm so st fi one two rows (fun _=>none) (G.take i)=w at ws wb sd
    have bb:BB (Iw so st fi one two rows w g):=Y8 (Pj tb _ _) b h0 h2
    have lk:kvs.length≤80:=by
     obtain ⟨kvs',e',l',_⟩:=ws
     rw [eW3] at e'
     cases e'
     omega
    refine ⟨kvs,_,⟨eW3,by omega,sd,(wb _).sq (by omega),(wb _).sq (by omega),bb.sq (by decide)⟩,fun p1 p2 H4 s4 m1 m2 q1 q2 eW4=>?_⟩
    have ws4:=ws.put eW3 ab s4 q1 q2 eW4
    have kt4:=s4.kt' eW3
    refine ⟨dd (dd l g.a) g.b,_,rfl,s4.n sN3 nW,Ej tk3 s4 (.inr ⟨_,eW3⟩),s4 _ _ dF eF3,aF3.imp fun v g r=>Lx v g _ _ kt4 r,⟨_,eW4,Jf (Jf ek _ _) _ _,G2 (G2 nd)⟩,fun x=>?_,?_⟩
    ·rw [Lp,Lp,ml,Yf]
    ·rw [Y6]
     exact ws4
   rintro σ H3 ⟨l,o3,rfl,sN3,tk3,eF3,aF3,⟨kvs,eW3,ek,nd⟩,ml,ws⟩
   rw [lF,List.take_length] at ml ws
   have el:Qq l=C7 gs:=Ix (Ch _) (Ch _) fun x=>by
    rw [Dx,ml,mG]
    exact B4.symm
   have ll:l.length≤8:=Nat.le_trans (Gz nd fun x hx=>by rw [←el];exact Dx.mpr hx) l8
   refine ⟨kvs,l,eW3,ek,by omega,nd,fun L0 hL0=>?_⟩
   rw [el]
   have s4:Ai H3 (upd H3 L0 (.lst ((C7 gs).map V.str))):=Al hL0
   have e4:upd H3 L0 (.lst ((C7 gs).map V.str)) L0=some (.lst ((C7 gs).map V.str)):=Ad
   generalize upd H3 L0 (.lst ((C7 gs).map V.str))=H4 at s4 e4
   have lp:(C7 gs).length≤8:=by
    rw [←el]
    exact Nat.le_trans (Gz (D6 (Ch _)) fun x hx=>Dx.mp hx) ll
   refine ⟨L0,rfl,⟨_,A0.of e4⟩,Gy (fun _ v (x:Str)=>v=V.str x) (fun _ _ _ _ _ h=>h) (fun H x y=>Nr H y (x,wq fi (Jm so st fi one two rows (fun _=>none) G x))) (fun x y H H' k h=>Sf y _ H H' k h) (by rw [List.length_map];omega) (A0.of e4) (Oh _) ?_ ?_⟩
   ·intro v x H5 hM hx s5 P hP
    subst hM
    have s35:=s4.trans s5
    have hx:pls G x:=(mG x).mpr (B4.mp hx)
    obtain ⟨kvs',e',_,ws'⟩:=ws
    rw [eW3] at e'
    cases e'
    have hs:=Rs (so:=so) (st:=st) (fi:=fi) (one:=one) (two:=two) (rows:=rows) (w:=fun _=>none) (.inr hx)
    rcases ws' x with ⟨u1,_⟩|⟨q,pp,u1,u2,u3⟩
    ·rw [Option.map_eq_none_iff.mp u1] at hs
     cases hs
    ·have gx:Et H5 W (.str x) (some (.ref pp)):=by
      have:=Et.k (k:=Sum.inr x) (s35 _ _ eW3)
      rw [u2] at this
      exact this
     obtain ⟨sp,e1,rfl⟩:=Option.map_eq_some_iff.mp u1
     refine ⟨rfl,W,_,rfl,gx,fun T H6 s6 e6=>hP _ _ s6 ⟨T,pp,rfl,e6,?_⟩⟩
     rw [e1]
     exact (s35.trans s6) _ _ u3
   intro D H5 ys s5 n5 e5 a5
   have s35:=s4.trans s5
   have sN5:=sN3.trans s35
   refine k D ys H5 (fun b o ne e=>sN5 b o (by rw [hN];unfold Er;rw [if_neg ne];exact e)) ?_ e5 (tk3.up s35) stb (by rw [hG];exact U0 a5)
   cases c:H D with
   |none=>rfl
   | some o=>
    exfalso
    by_cases z:D=Bi K
    ·obtain ⟨ps3,t3,_⟩:=tk3.up s4
     rw [←z,n5] at t3
     cases t3
    ·have:N D=some o:=by
      rw [hN]
      unfold Er
      rw [if_neg z]
      exact c
     rw [Bt (sN3.trans s4) n5] at this
     cases this
def S0 (K:PySem.W.Frag):List V→Hp→VK→Prop:=fun xs H Q=>match xs with
 |[.ref p]=>∃ys,(A0 K H p ys∨Ed K H p ys)∧∀l,H l=none→Q (.ref l) (upd H l (.lst ys))
 |_=>False
theorem O8 {X:Cx}:B6 X (.type "list") (S0 X.K):=by
 intro pins s σ H xs us Q I r h
 match xs,h with
 |[.ref p],⟨ys,h1,q⟩=>exact Jc pins s σ H _ us Q I r ⟨p,ys,rfl,h1,fun l hl=>q l hl⟩
def Hr (K:PySem.W.Frag)(ns:List Int):Sp:=fun vs H Q _=>match vs with
 |[.ref L]=>∃gs,(Bk K H L gs∧(C7 gs).length<64)∧∀D H',Ai H H'→H D=none→H' D=some (.lst ((C7 gs).map V.str))→Q (.ref D) H'
 |_=>False
theorem Ty:Ao ["games"] ["games"] (Ag Kg):=⟨rfl,rfl,rfl,by decide +kernel,rfl,by decide +kernel,by decide +kernel⟩
theorem Sz (d:B0 K mg "players" Kg ["games"])(er:Bh K mg c_LadderError c_Ledger c_NoBook c_NoFit c_NoGame c_NoNumber c_NoPlayer c_NoRow c_NoTable c_Rule)(n_sorted:mg "sorted"=none)(n_set:mg "set"=none)  :Bf P w K mg base "players" ["games"] 1 (Hr K ns):=by
 refine d.cal (k:=0) Ty (fun vs H Q E h=>?_) (fun f cdv A outer s H vs Q E hr h=>?_)
 ·match vs,h with
  |[.ref L],_=>rfl
 ·match vs,h with
  | [.ref L],hq0=>
   obtain ⟨gs,⟨⟨vs,hx,hm,hl⟩,h64⟩,k⟩:=hq0
   refine ⟨_,(@Af _ _ _ (@At _ _ _ _ (@Aat _ _ _ _ _ _ _ (by rfl) n_sorted (by rfl) n_set (@Aj _ _ _ _ _ _ _ _ Mw (@Fw _ _ _ _ _ _ _ _ _ _ ["played"] [] [] rfl (@Db _ _ _ _ (dv 0)) (fun C s H fp=>(@Bb _ _ (0) _ (show List.Nodup [("played":Str)] by decide +kernel) rfl (by trivial) (by trivial))) (fun C s H fp=>(@Am _ _ _ _ _ _ _ Au (dv 0) Ab (fun _ _=>rfl))) rfl rfl (by decide +kernel) (by decide +kernel) (by rfl) True.intro True.intro (by intro _;rfl)) (@Fw _ _ _ _ _ _ _ _ _ _ ["played"] [] [] rfl (@Db _ _ _ _ (dv 0)) (fun C s H fp=>(@Bb _ _ (0) _ (show List.Nodup [("played":Str)] by decide +kernel) rfl (by trivial) (by trivial))) (fun C s H fp=>(@Am _ _ _ _ _ _ _ Au (dv 0) Ab (fun _ _=>rfl))) rfl rfl (by decide +kernel) (by decide +kernel) (by rfl) True.intro True.intro (by intro _;rfl))) (by rfl) (by rfl) (by rfl)))),?_⟩
   have hz:vs.length≤1000:=by rw [hm.len];omega
   refine ⟨L,rfl,⟨_,hx⟩,Gy Ck Dj (fun _ g y=>y=V.str g.a) (fun _ _ _ _ _ h=>h) hz hx hm ?_ ?_⟩
   ·intro v m H2 hM _ s2 P hP
    obtain ⟨p,rfl,e⟩:=hM
    exact ⟨rfl,_,e,hP _ _ (Ai.refl _) rfl⟩
   intro D1 H1 ys1 s1 _ e1 a1
   have y1:=Kc a1
   have hm1:Aw (Ck H1) vs gs:=hm.imp fun v g r=>Dj v g _ _ (A6 s1) r
   refine ⟨L,rfl,⟨_,s1.seq hx⟩,Gy Ck Dj (fun _ g y=>y=V.str g.b) (fun _ _ _ _ _ h=>h) hz (s1.seq hx) hm1 ?_ ?_⟩
   ·intro v m H2 hM _ s2 P hP
    obtain ⟨p,rfl,e⟩:=hM
    exact ⟨rfl,_,e,hP _ _ (Ai.refl _) rfl⟩
   intro D2 H2 ys2 s2 _ e2 a2
   have y2:=Kc a2
   have l1:=a1.len
   have l2:=a2.len
   refine ⟨_,_,s2 _ _ e1,e2,by omega,fun D3 H3 s3 e3=>⟨gs.map (·.a)++gs.map (·.b),A0.of ?_,?_,h64,fun D hD=>?_⟩⟩
   ·rw [e3,y1,y2,List.map_append]
   ·rw [List.length_append,List.length_map,List.length_map]
    omega
   ·have s:=s1.trans (s2.trans s3)
    exact k D _ (s.trans (Al hD)) (Bt s hD) Ad
abbrev En:=Int×Gm
def Lv (H:Hp)(kv:Bl×V)(e:En):Prop:=kv.1=Sum.inl e.1∧Ck H kv.2 e.2
theorem Gb (kv:Bl×V)(e:En)(H H':Hp)(k:Kt H H')(h:Lv H kv e):Lv H' kv e:=⟨h.1,Dj _ _ _ _ k h.2⟩
def K8 (es:List En):Prop:=es.Pairwise fun a b=>a.1<b.1
def Aey (H:Hp)(A:Addr)(es:List En):Prop:=∃kvs,H A=some (.dK kvs)∧Aw (Lv H) kvs es
theorem Qe {H:Hp}:∀{kvs:List (Bl×V)} {es:List En},Aw (Lv H) kvs es→Aw (Ck H) (kvs.map (·.2)) (es.map (·.2))
 |_,_,.nil=>.nil
 |_,_,.cons h t=>.cons h.2 (Qe t)
theorem Vx {H:Hp}:∀{kvs:List (Bl×V)} {es:List En},Aw (Lv H) kvs es→kvs.map (·.1)=es.map fun e=>(Sum.inl e.1:Bl)
 |_,_,.nil=>rfl
 |_,_,.cons h t=>by rw [List.map_cons,List.map_cons,h.1,Vx t]
theorem Iy {e:En}{es:List En}(h:K8 (e::es)):∀x∈es,x.1≠e.1:=fun x hx=>by
 have:=(List.pairwise_cons.mp h).1 x hx
 omega
theorem Lu {H:Hp}:∀{kvs:List (Bl×V)} {es:List En},Aw (Lv H) kvs es→K8 es→∀{n:Int} {g:Gm},(n,g)∈es→∃v,B1 kvs (Sum.inl n)=some v∧Ck H v g
 | _,_,.cons (a:=kv) (b:=e) h t,hi,n,g,hm=>by
  rcases List.mem_cons.mp hm with e'|hm
  ·refine ⟨kv.2,Bn (by rw [h.1,←e']),?_⟩
   have:=h.2
   rw [←e'] at this
   exact this
  ·obtain ⟨v,h1,h2⟩:=Lu t (List.pairwise_cons.mp hi).2 hm
   refine ⟨v,?_,h2⟩
   rw [Bj]
   ·exact h1
   ·rw [h.1]
    intro z
    have:=Iy hi _ hm
    exact this (Sum.inl.inj z).symm
theorem Ox {H:Hp}:∀{kvs:List (Bl×V)} {es:List En},Aw (Lv H) kvs es→∀{n:Int},(∀e∈es,e.1≠n)→B1 kvs (Sum.inl n)=none
 |_,_,.nil,_,_=>rfl
 | _,_,.cons (a:=kv) (b:=e) h t,n,hn=>by
  rw [Bj]
  ·exact Ox t fun e he=>hn e (List.mem_cons_of_mem _ he)
  ·rw [h.1]
   intro z
   exact hn e List.mem_cons_self (Sum.inl.inj z)
theorem Vd {H:Hp}:∀{kvs:List (Bl×V)} {es:List En},Aw (Lv H) kvs es→∀(n:Int),Aw (Lv H) (Fg kvs (Sum.inl n)) (es.filter fun e=>decide (e.1≠n))
 |_,_,.nil,_=>.nil
 | _,_,.cons (a:=kv) (b:=e) h t,n=>by
  have ih:=Vd t n
  unfold Fg at ih ⊢
  by_cases c:e.1=n
  ·rw [List.filter_cons_of_neg (by rw [h.1,c];simp),List.filter_cons_of_neg (by simp [c])]
   exact ih
  ·rw [List.filter_cons_of_pos (by rw [h.1];simp [c]),List.filter_cons_of_pos (by simp [c])]
   exact .cons h ih
def Tz (es:List En)(n:Int)(g0:Gm):List En:=es.filter fun e=>gt2 e.2.d e.1 g0.d n
theorem Jq:∀{es:List En},K8 es→∀{e e':En},e∈es→e'∈es→e.1=e'.1→e=e'
 |[],_,_,_,he,_,_=>absurd he List.not_mem_nil
 | x::es,h,e,e',he,he',z=>by
  rcases List.mem_cons.mp he with h1|h1
  ·rcases List.mem_cons.mp he' with h2|h2
   ·rw [h1,h2]
   ·rw [h1] at z
    exact absurd z.symm (Iy h _ h2)
  ·rcases List.mem_cons.mp he' with h2|h2
   ·rw [h2] at z
    exact absurd z (Iy h _ h1)
   ·exact Jq (List.pairwise_cons.mp h).2 h1 h2 z
def cB (es:List En)(n:Int)(g0:Gm):Bl→Bool
 |.inl m=>es.any fun e=>decide (e.1=m)&&gt2 e.2.d e.1 g0.d n
 |.inr _=>false
theorem Adg {es:List En}(h:K8 es){n:Int}{g0:Gm}{e:En}(he:e∈es):cB es n g0 (Sum.inl e.1)=gt2 e.2.d e.1 g0.d n:=by
 unfold cB
 rw [Bool.eq_iff_iff,List.any_eq_true]
 constructor
 ·rintro ⟨x,hx,c⟩
  rw [Bool.and_eq_true] at c
  have:=Jq h hx he (of_decide_eq_true c.1)
  subst this
  exact c.2
 ·intro c
  exact ⟨e,he,by rw [Bool.and_eq_true];exact ⟨decide_eq_true rfl,c⟩⟩
theorem Acb {es:List En}(h:K8 es){n:Int}{g0:Gm}:(es.map fun e=>(Sum.inl e.1:Bl)).filter (cB es n g0)=(Tz es n g0).map fun e=>(Sum.inl e.1:Bl):=by
 rw [List.filter_map]
 unfold Tz
 congr 1
 exact List.filter_congr fun e he=>Adg h he
theorem Va {H:Hp}{es:List En}:∀{l:List En} {ys:List V},(∀e∈l,e∈es)→Aw (fun (x:Bl) y=>∀e∈es,x=Sum.inl e.1→Ck H y e.2) (l.map fun e=>(Sum.inl e.1:Bl)) ys→Aw (Ck H) ys (l.map (·.2))
 |[],_,_,.nil=>.nil
 |e::l,_,hl,.cons h t=>.cons (h e (hl e List.mem_cons_self) rfl) (Va (fun e he=>hl e (List.mem_cons_of_mem _ he)) t)
def Nz (K:PySem.W.Frag)(ns:List Int):Sp:=fun vs H Q _=>match vs with
 |[.ref A,.int n]=>∃(es:List En) (g0:Gm),(Aey H A es∧K8 es∧es.length≤40∧(n,g0)∈es∧Ay H (Bi K) Bv Fl) ∧
  ∀D vs H' p,Rh (Bi K) H H'→H D=none→H' D=some (.lst vs)→Ay H' (Bi K) Bv Fl→Ll (dk ((Tz es n g0).map (·.2))) ((Tz es n g0).map (·.2)).length p→Aw (Ck H') vs (pg ((Tz es n g0).map (·.2)) p)→Q (.ref D) H'
 |_=>False
theorem Og:Ao ["kept","number","place"] ["kept","number"] (Ag L9):=⟨rfl,rfl,rfl,by decide +kernel,rfl,by decide +kernel,by decide +kernel⟩
theorem Xb (d:B0 K mg "behind" L9 ["kept","number"])(er:Bh K mg c_LadderError c_Ledger c_NoBook c_NoFit c_NoGame c_NoNumber c_NoPlayer c_NoRow c_NoTable c_Rule)   (c_in_order:Bf P w K mg base "in_order" ["games"] 3 (Ez K ns)):Bf P w K mg base "behind" ["kept","number"] 4 (Nz K ns):=by
 refine d.cal (k:=3) Og (fun vs H Q E h=>?_) (fun f cdv A outer s H vs Q E hr h=>?_)
 ·match vs,h with
  |[.ref A,.int n],_=>rfl
 ·match vs,h with
  | [.ref A,.int n],hq0=>
   obtain ⟨es,g0,⟨⟨kvs,eA,al⟩,hi,l40,hn,tk⟩,k⟩:=hq0
   refine ⟨_,(@Ae _ _ _ _ _ (@Ar _ _ (2) _ _ _ _ Og.nd rfl (by trivial) (@Cj _ _ _ _ _ (@Aa _ _ _ _ _ (@Am _ _ _ _ _ _ _ Au (@G8 _ _ _ _ _ _ (@u1 _ _ hr.units) (dv 0) (dv 1) (fun _ _=>rfl)) Ab (fun _ _=>rfl)) (@Aa _ _ _ _ _ (dv 1) Ac (by rfl)) (by rfl))) (by rfl) (by trivial)) (@Af _ _ _ (@At _ _ _ _ (@An _ _ _ _ _ _ _ _ _ _ _ c_in_order hr (by decide) (by rfl) (@Aa _ _ _ _ _ (@Aa7 _ _ _ (@Zw _ _ _ _ _ _ _ _ _ _ _ _ ["other"] ["kept","place"] [0,2] rfl (@Xr _ _ _ _ (dv 0)) (fun C s H fp=>(@Bb _ _ (0) _ (show List.Nodup [("other":Str),("kept":Str),("place":Str)] by decide +kernel) rfl (by trivial) (by trivial))) (fun C s H fp=>(@Bw _ _ _ _ _ _ _ _ (show C6 _ _ Ah0 from (Aif hr.units)) (@Cj _ _ _ _ _ (@Aa _ _ _ _ _ (@Am _ _ _ _ _ _ _ Au (@G8 _ _ _ _ _ _ (@u1 _ _ hr.units) (dv 1) (dv 0) (fun _ _=>rfl)) Ab (fun _ _=>rfl)) (@Aa _ _ _ _ _ (dv 0) Ac (by rfl)) (by rfl))) (dv 2) (@A1 _ _ (by decide) (by decide)))) (fun C s H fp=>(@G8 _ _ _ _ _ _ (@u1 _ _ hr.units) (dv 1) (dv 0) (fun _ _=>rfl))) rfl rfl (by decide +kernel) (by decide +kernel) (by rfl) ⟨rfl,⟨rfl,True.intro⟩⟩ ⟨⟨rfl,rfl,rfl,rfl⟩,⟨⟨rfl,rfl,rfl,rfl⟩,True.intro⟩⟩ (by intro _;rfl))) Ac (by rfl)) (by decide) (by rfl) (by rfl))))),?_⟩
   obtain ⟨v0,hv0,p0,rfl,hp0⟩:=Lu al hi hn
   have dg:∀{H':Hp} {m:Int},Rd H' A (.dK kvs)→Et H' A (.int m) (B1 kvs (Sum.inl m)):=fun e=>.inl ⟨kvs,Sum.inl _,e,rfl,rfl⟩
   have g1:=dg (m:=n) (.inl eA)
   rw [hv0] at g1
   refine ⟨A,_,rfl,g1,_,hp0,fun P H1 s1 e1=>?_⟩
   have eA1:=s1 _ _ eA
   refine ⟨A,kvs,rfl,eA1,fun o=>?_⟩
   have x2:Sx A H1 (upd H1 A (.frz o (.dK kvs))):=Sx.upd
   have e2:upd H1 A (.frz o (.dK kvs)) A=some (.frz o (.dK kvs)):=Ad
   have kt2:Kt H1 (upd H1 A (.frz o (.dK kvs))):=x2.kt' eA1
   have eP2:=kt2 _ _ e1
   have al2:Aw (Lv (upd H1 A (.frz o (.dK kvs)))) kvs es:=al.imp fun kv e r=>Gb kv e _ _ ((A6 s1).trans kt2) r
   generalize upd H1 A (.frz o (.dK kvs))=H2 at x2 e2 kt2 eP2 al2
   have kl:kvs.length≤40:=by rw [al.len];exact l40
   have ek:=Vx al
   refine Su (fun H x y=>∀e∈es,x=Sum.inl e.1→Ck H y e.2) (fun x y H H' kt h e he z=>Dj _ _ _ _ kt (h e he z)) (cB es n g0) (by omega) e2 ?_ ?_
   ·intro x H3 hx s3 P3 P3' hP hP'
    rw [ek] at hx
    obtain ⟨e,he,rfl⟩:=List.mem_map.mp hx
    obtain ⟨v,hv,p,rfl,hp⟩:=Lu (al2.imp fun kv e r=>Gb kv e _ _ (A6 s3) r) hi he
    have gx:=dg (m:=e.1) (.inr ⟨o,s3 _ _ e2⟩)
    rw [hv] at gx
    have hP:=hP
    rw [Adg hi he] at hP hP'
    have un:∀{H':Hp},Ck H' (.ref p) e.2→∀e'∈es,(Sum.inl e.1:Bl)=Sum.inl e'.1→Ck H' (.ref p) e'.2:=fun hg e' he' z=>by
     have:=Jq hi he he' (Sum.inl.inj z)
     subst this
     exact hg
    refine ⟨rfl,A,_,rfl,gx,_,hp,fun T H4 s4 e4=>⟨e.2.d,e.1,g0.d,n,e4,s4 _ _ (s3 _ _ eP2),⟨fun h=>?_,fun h=>hP' h _ s4⟩⟩⟩
    have gx4:=dg (m:=e.1) (.inr ⟨o,s4 _ _ (s3 _ _ e2)⟩)
    rw [hv] at gx4
    exact ⟨A,_,rfl,gx4,hP h _ _ s4 (un ⟨p,rfl,s4 _ _ hp⟩)⟩
   intro D0 H3 ys s3 n3 e3 a3
   rw [ek,Acb hi] at a3
   have aY:Aw (Ck H3) ys ((Tz es n g0).map (·.2)):=Va (fun e he=>(List.mem_filter.mp he).1) a3
   have e3A:=s3 _ _ e2
   refine ⟨A,o,kvs,e3A,fun o' u z=>?_,?_⟩
   ·have z:H A=some (.frz o' u):=z
    rw [eA] at z
    cases z
   have nDA:D0≠A:=fun z=>by rw [z,e3A] at e3;cases e3
   have sA:Sx A H3 (upd H3 A (.dK kvs)):=Sx.upd
   have s14:Ai H1 (upd H3 A (.dK kvs)):=fun b u e=>by
    by_cases c:b=A
    ·subst c
     rw [eA1] at e
     cases e
     exact Ad
    ·exact sA b u c (s3 b u (x2 b u c e))
   have kt4:Kt H3 (upd H3 A (.dK kvs)):=fun p xs e=>sA p _ (fun z=>by rw [z,e3A] at e;cases e) e
   have eD4:=sA _ _ nDA e3
   generalize upd H3 A (.dK kvs)=H4 at sA s14 kt4 eD4
   have aY4:=aY.imp fun v g r=>Dj v g _ _ kt4 r
   have s04:=s1.trans s14
   have lb:(Tz es n g0).length≤es.length:=List.length_filter_le _ _
   refine ⟨_,ys,⟨A0.of eD4,aY4,by rw [List.length_map];omega,tk.up s04⟩,fun D H5 p sm nD eD tk5 stb=>?_⟩
   obtain ⟨ps,tt,_⟩:=tk.up s04
   have kt5:Kt H4 H5:=fun q xs e=>sm q _ (fun z=>by rw [z,tt] at e;cases e) e
   exact k D _ H5 p (fun b o ne e=>sm b o ne (s04 b o e)) (Bt s04 nD) eD tk5 stb (Sr (aY4.imp fun v g r=>Dj v g _ _ kt5 r) fun i hi=>stb.2.1 i hi)
def Qu (ns:List Str)(gs:List Gm):List Str:=gs.foldl (fun ns g=>if g.a∈ns∨g.b∈ns then ns++[g.a,g.b] else ns) ns
theorem O4:∀(gs:List Gm) (ns:List Str),(Qu ns gs).length≤ns.length+2*gs.length
 |[],_=>Nat.le_refl _
 | g::gs,ns=>by
  have:=O4 gs (if g.a∈ns∨g.b∈ns then ns++[g.a,g.b] else ns)
  show (Qu (if g.a∈ns∨g.b∈ns then ns++[g.a,g.b] else ns) gs).length≤_
  have l:(if g.a∈ns∨g.b∈ns then ns++[g.a,g.b] else ns).length≤ns.length+2:=by
   split
   ·rw [List.length_append]
    exact Nat.le_refl _
   ·omega
  rw [List.length_cons]
  omega
theorem Uy {nm:List Str}:∀{gs:List Gm} {ns:List Str},(∀x∈ns,x∈nm)→(∀g∈gs,g.a∈nm∧g.b∈nm)→∀x∈Qu ns gs,x∈nm
 |[],_,h,_=>h
 | g::gs,ns,h,hg=>by
  refine Uy (gs:=gs) (fun x hx=>?_) fun g' h'=>hg g' (List.mem_cons_of_mem _ h')
  obtain ⟨g1,g2⟩:=hg g List.mem_cons_self
  have hx:x∈(if g.a∈ns∨g.b∈ns then ns++[g.a,g.b] else ns):=hx
  split at hx
  ·rcases List.mem_append.mp hx with hx|hx
   ·exact h x hx
   ·rcases List.mem_cons.mp hx with rfl|hx
    ·exact g1
    ·rw [List.mem_singleton.mp hx]
     exact g2
  ·exact h x hx
theorem Yv {gs:List Gm}{ns:List Str}{g:Gm}:Qu ns (gs++[g])=if g.a∈Qu ns gs∨g.b∈Qu ns gs then Qu ns gs++[g.a,g.b] else Qu ns gs:=by
 unfold Qu
 rw [List.foldl_append]
 rfl
theorem Io {x:Str}:∀(l:List Str),inV (.str x) (l.map V.str)=decide (x∈l)
 |[]=>rfl
 | y::l=>by
  have ih:=Io (x:=x) l
  unfold inV at ih ⊢
  rw [List.map_cons,List.any_cons,ih]
  have e:((y:Str)==x)=decide (y=x):=by
   by_cases h:y=x
   ·subst h;simp
   ·rw [decide_eq_false h];exact beq_eq_false_iff_ne.mpr h
  show ((y==x)||decide (x∈l))=_
  rw [e,←Bool.decide_or]
  refine decide_eq_decide.mpr ⟨fun h=>?_,fun h=>?_⟩
  ·rcases h with rfl|h
   ·exact List.mem_cons_self
   ·exact List.mem_cons_of_mem _ h
  ·rcases List.mem_cons.mp h with rfl|h
   ·exact .inl rfl
   ·exact .inr h
theorem Ha:∀(l:List Str),(l.map V.str).all E7=true
 |[]=>rfl
 |_::l=>by
  rw [List.map_cons,List.all_cons,Ha l]
  rfl
def Hq (K:PySem.W.Frag)(ns:List Int):Sp:=fun vs H Q _=>match vs with
 |[.ref A,.int n]=>∃(es:List En) (g0:Gm) (nm:List Str),(Aey H A es∧K8 es∧es.length≤40∧(n,g0)∈es∧Ay H (Bi K) Bv Fl∧nm.length≤8∧∀e∈es,e.2.a∈nm∧e.2.b∈nm) ∧
  ∀D H' p,Rh (Bi K) H H'→H D=none→H' D=some (.lst ((Qq (Qu [g0.a,g0.b] (pg ((Tz es n g0).map (·.2)) p))).map V.str))→Ay H' (Bi K) Bv Fl→Ll (dk ((Tz es n g0).map (·.2))) ((Tz es n g0).map (·.2)).length p→Q (.ref D) H'
 |_=>False
theorem Hl:Ao ["kept","number","names","played"] ["kept","number"] (Ag Jw):=⟨rfl,rfl,rfl,by decide +kernel,rfl,by decide +kernel,by decide +kernel⟩
theorem Tk (d:B0 K mg "reached" Jw ["kept","number"])(er:Bh K mg c_LadderError c_Ledger c_NoBook c_NoFit c_NoGame c_NoNumber c_NoPlayer c_NoRow c_NoTable c_Rule)(n_sorted:mg "sorted"=none)(n_set:mg "set"=none)(n_list:mg "list"=none)  (c_behind:Bf P w K mg base "behind" ["kept","number"] 4 (Nz K ns)):Bf P w K mg base "reached" ["kept","number"] 5 (Hq K ns):=by
 refine d.cal (k:=4) Hl (fun vs H Q E h=>?_) (fun f cdv A outer s H vs Q E hr h=>?_)
 ·match vs,h with
  |[.ref A,.int n],_=>rfl
 ·match vs,h with
  | [.ref A,.int n],hq0=>
   obtain ⟨es,g0,nm,⟨⟨kvs,eA,al⟩,hi,l40,hn,tk,l8,sub⟩,k⟩:=hq0
   refine ⟨_,(@Ae _ _ _ _ _ (@Ar _ _ (2) _ _ _ _ Hl.nd rfl (by trivial) (@Fd _ _ _ _ _ _ _ _ _ O8 (by rfl) n_list (by decide +kernel) (@Aa _ _ _ _ _ (@Cg _ _ _ _ _ _ _ _ _ _ Tm (@G8 _ _ _ _ _ _ (@u1 _ _ hr.units) (dv 0) (dv 1) (fun _ _=>rfl)) (B5 Ab) (B5 Ab)) Ac (by rfl)) (by decide) (by decide) (by rfl) (by rfl)) (by rfl) (by trivial)) (@Ae _ _ _ _ _ (@Gk _ _ _ _ _ _ _ _ PassesOwn.never rfl (@Db _ _ _ _ (@An _ _ _ _ _ _ _ _ _ _ _ c_behind hr (by decide) (by rfl) (@Aa _ _ _ _ _ (dv 0) (@Aa _ _ _ _ _ (dv 1) Ac (by rfl)) (by rfl)) (by decide) (by rfl) (by rfl))) (@Bb _ _ (3) _ Hl.nd rfl (by trivial) (by trivial)) (@Af _ _ _ (@Ct _ _ _ _ _ _ _ _ (@L2.PW.pt _ _ _ (@Wg _ _ _ _ _ _ _ (@Bw _ _ _ _ _ _ _ _ Ajb (@Am _ _ _ _ _ _ _ Au (dv 3) Ab (fun _ _=>rfl)) (dv 2) (by with_unfolding_all rfl)) (@Ls _ _ _ _ (@Bw _ _ _ _ _ _ _ _ Ajb (@Am _ _ _ _ _ _ _ Au (dv 3) Ab (fun _ _=>rfl)) (dv 2) (by with_unfolding_all rfl))))) (@Af _ _ _ (@Ci _ _ _ _ (@Kz _ _ _ _ _ _ _ _ _ _ _ _ PySem.F.plainAttrs_list PySem.F.slot_list_extend PySem.F.type_list_extend Abo (dv 2) (@Aa _ _ _ _ _ (@Cg _ _ _ _ _ _ _ _ _ _ Tm (dv 3) (B5 Ab) (B5 Ab)) Ac (by rfl)) (by rfl) (by rfl) (by rfl) (by rfl) (by rfl)) (by rfl))) A5)) (by intro _;rfl)) (@Af _ _ _ (@At _ _ _ _ (@Aat _ _ _ _ _ _ _ (by rfl) n_sorted (by rfl) n_set (dv 2) (by rfl) (by rfl) (by rfl)))))),?_⟩
   obtain ⟨v0,hv0,p0,rfl,hp0⟩:=Lu al hi hn
   have g1:Et H A (.int n) (B1 kvs (Sum.inl n)):=.inl ⟨kvs,Sum.inl _,.inl eA,rfl,rfl⟩
   rw [hv0] at g1
   refine ⟨A,_,rfl,g1,_,rfl,_,rfl,p0,_,rfl,Ed.of hp0,(by show ¬(HT.sIx 5 0 (some 1)=0∧HT.sIx 5 5 (some 3)=5);decide),fun t ht=>?_⟩
   rw [show Dn [V.int g0.d,V.str g0.a,V.str g0.b,V.int g0.h,V.int g0.s] (some 1) (some 3)=[V.str g0.a,V.str g0.b] from rfl]
   have s1:Ai H (upd H t (.tup [.str g0.a,.str g0.b])):=Al ht
   have e1:upd H t (.tup [.str g0.a,.str g0.b]) t=some (.tup [.str g0.a,.str g0.b]):=Ad
   generalize upd H t (.tup [.str g0.a,.str g0.b])=H1 at s1 e1
   refine ⟨_,.inr (Ed.of e1),fun N hN=>?_⟩
   have s2:Ai H1 (upd H1 N (.lst [.str g0.a,.str g0.b])):=Al hN
   have e2:upd H1 N (.lst [.str g0.a,.str g0.b]) N=some (.lst ([g0.a,g0.b].map V.str)):=Ad
   have hN0:H N=none:=Bt s1 hN
   generalize upd H1 N (.lst [.str g0.a,.str g0.b])=H2 at s2 e2
   have s02:=s1.trans s2
   refine ⟨es,g0,⟨⟨kvs,s02 _ _ eA,al.imp fun kv e r=>Gb kv e _ _ (A6 s02) r⟩,hi,l40,hn,tk.up s02⟩,fun B vs H3 p sm nB eB tk3 stb aB=>?_⟩
   obtain ⟨ps,tt,_⟩:=tk.up s02
   have nNT:N≠Bi K:=fun z=>by rw [z,tt] at e2;cases e2
   have e3:=sm _ _ nNT e2
   have nBN:B≠N:=fun z=>by rw [z,e2] at nB;cases nB
   have hz:∀b o,b≠Bi K→H b=some o→H3 b=some o:=fun b o ne e=>sm b o ne (s02 b o e)
   have lb:(Tz es n g0).length≤es.length:=List.length_filter_le _ _
   have lp:(pg ((Tz es n g0).map (·.2)) p).length≤40:=by
    have:=stb.1
    have:(pg ((Tz es n g0).map (·.2)) p).length≤p.length:=List.length_filterMap_le ..
    rw [List.length_map] at *
    omega
   have subG:∀g∈pg ((Tz es n g0).map (·.2)) p,g.a∈nm∧g.b∈nm:=fun g hg=>by
    obtain ⟨e,he,rfl⟩:=List.mem_map.mp (Jt hg)
    exact sub e (List.mem_filter.mp he).1
   have k:=k (p:=p)
   generalize hG:pg ((Tz es n g0).map (·.2)) p=G at aB lp subG k
   have lv:=aB.len
   refine ⟨B,rfl,⟨_,A0.of eB⟩,Il (K:=K) (a:=B) (xs:=vs) (fun i σ H'=>∃o3:Option V,σ=[some (.ref A),some (.int n),some (.ref N),o3]∧(∀b o,b≠N→H3 b=some o→H' b=some o)∧Ay H' (Bi K) Bv Fl∧H' N=some (.lst ((Qu [g0.a,g0.b] (G.take i)).map V.str))) ⟨none,rfl,fun b o _ e=>e,tk3,e3⟩ (fun i σ H' _ ⟨_,_,s,_⟩=>A0.of (s _ _ nBN eB)) ?_ ?_⟩
   ·rintro i v σ H4 hv ⟨o3,rfl,s4,tk4,e4⟩
    obtain ⟨g,hg,pg',rfl,hpg⟩:=aB.get hv
    have hpg4:=s4 _ _ (fun z=>by rw [z,e3] at hpg;cases hpg) hpg
    have tk':G.take (i+1)=G.take i++[g]:=by rw [List.take_add_one,hg];rfl
    have ll:(Qu [g0.a,g0.b] (G.take i)).length≤82:=by
     have:=O4 (G.take i) [g0.a,g0.b]
     rw [List.length_take] at this
     have z:[g0.a,g0.b].length=2:=rfl
     omega
    rw [tk',Yv]
    generalize Qu [g0.a,g0.b] (G.take i)=l at e4 ll
    have go:(g.a∈l∨g.b∈l)→∀t':Addr,H4 t'=none→∃o3:Option V,[some (V.ref A),some (V.int n),some (V.ref N),some (V.ref pg')]=[some (.ref A),some (.int n),some (.ref N),o3]∧(∀b o,b≠N→H3 b=some o→upd (upd H4 t' (.tup [.str g.a,.str g.b])) N (.lst (l.map V.str++[.str g.a,.str g.b])) b=some o)∧Ay (upd (upd H4 t' (.tup [.str g.a,.str g.b])) N (.lst (l.map V.str++[.str g.a,.str g.b]))) (Bi K) Bv Fl∧upd (upd H4 t' (.tup [.str g.a,.str g.b])) N (.lst (l.map V.str++[.str g.a,.str g.b])) N=some (.lst ((if g.a∈l∨g.b∈l then l++[g.a,g.b] else l).map V.str)):=fun c t' ht'=>by
     have ntN:t'≠N:=fun z=>by rw [z,e4] at ht';cases ht'
     have s5:Ai H4 (upd H4 t' (.tup [.str g.a,.str g.b])):=Al ht'
     refine ⟨_,rfl,fun b o ne e=>?_,Ej (tk4.up s5) Sx.upd (.inl ⟨_,s5 _ _ e4⟩),?_⟩
     ·rw [Ak ne]
      exact s5 b o (s4 b o ne e)
     ·rw [if_pos c,Ad,List.map_append]
      rfl
    refine ⟨_,hpg4,_,.inl (A0.of e4),rfl,Ha l,?_⟩
    rw [Io]
    refine ⟨fun h=>?_,fun h=>⟨_,hpg4,_,.inl (A0.of e4),rfl,Ha l,?_⟩⟩
    rotate_left
    ·rw [Io]
     refine ⟨fun h'=>?_,fun h'=>?_⟩
     rotate_left
     ·have c:¬(g.a∈l∨g.b∈l):=fun z=>z.elim (of_decide_eq_false h) (of_decide_eq_false h')
      rw [if_neg c]
      exact ⟨_,rfl,s4,tk4,e4⟩
     have c:g.a∈l∨g.b∈l:=.inr (of_decide_eq_true h')
     refine ⟨.inl ⟨rfl,_,A0.of e4⟩,_,rfl,_,rfl,pg',_,rfl,Ed.of hpg4,(by show ¬(HT.sIx 5 0 (some 1)=0∧HT.sIx 5 5 (some 3)=5);decide),fun t' ht'=>?_⟩
     rw [show Dn [V.int g.d,V.str g.a,V.str g.b,V.int g.h,V.int g.s] (some 1) (some 3)=[V.str g.a,V.str g.b] from rfl]
     have s5:Ai H4 (upd H4 t' (.tup [.str g.a,.str g.b])):=Al ht'
     exact ⟨N,t',_,_,rfl,rfl,s5 _ _ e4,Ad,by rw [List.length_map];exact Nat.le_trans (show l.length+2≤84 by omega) (by decide),go c t' ht'⟩
    have c:g.a∈l∨g.b∈l:=.inl (of_decide_eq_true h)
    refine ⟨fun _=>?_,fun h=>nb h⟩
    refine ⟨.inl ⟨rfl,_,A0.of e4⟩,_,rfl,_,rfl,pg',_,rfl,Ed.of hpg4,(by show ¬(HT.sIx 5 0 (some 1)=0∧HT.sIx 5 5 (some 3)=5);decide),fun t' ht'=>?_⟩
    rw [show Dn [V.int g.d,V.str g.a,V.str g.b,V.int g.h,V.int g.s] (some 1) (some 3)=[V.str g.a,V.str g.b] from rfl]
    have s5:Ai H4 (upd H4 t' (.tup [.str g.a,.str g.b])):=Al ht'
    exact ⟨N,t',_,_,rfl,rfl,s5 _ _ e4,Ad,by rw [List.length_map];exact Nat.le_trans (show l.length+2≤84 by omega) (by decide),go c t' ht'⟩
   rintro σ H4 ⟨o3,rfl,s4,tk4,e4⟩
   rw [lv,List.take_length] at e4
   have l82:(Qu [g0.a,g0.b] G).length≤82:=by
    have:=O4 G [g0.a,g0.b]
    have z:[g0.a,g0.b].length=2:=rfl
    omega
   have sN:∀x∈Qu [g0.a,g0.b] G,x∈nm:=Uy (fun x hx=>by
    obtain ⟨h1,h2⟩:=sub _ hn
    rcases List.mem_cons.mp hx with rfl|hx
    ·exact h1
    ·rw [List.mem_singleton.mp hx]
     exact h2) subG
   have l64:(Qq (Qu [g0.a,g0.b] G)).length≤nm.length:=Gz (D6 (Ch _)) fun x hx=>sN x (Dx.mp hx)
   refine ⟨_,A0.of e4,by omega,by omega,fun D hD=>?_⟩
   have s5:Ai H4 (upd H4 D (.lst ((Qq (Qu [g0.a,g0.b] G)).map V.str))):=Al hD
   have hs:Rh (Bi K) H (upd H4 D (.lst ((Qq (Qu [g0.a,g0.b] G)).map V.str))):=fun b o ne e=>s5 b o (s4 b o (fun z=>by rw [z,hN0] at e;cases e) (hz b o ne e))
   refine k D _ hs ?_ Ad (tk4.up s5) stb
   cases c:H D with
   |none=>rfl
   | some o=>
    exfalso
    by_cases z:D=Bi K
    ·obtain ⟨ps4,t4,_⟩:=tk4
     rw [←z,hD] at t4
     cases t4
    ·rw [s4 D o (fun z=>by rw [z,hN0] at c;cases c) (hz D o z c)] at hD
     cases hD
def Hf (K:PySem.W.Frag)(ns:List Int):Sp:=fun vs H Q E=>match vs with
 |[.ref L]=>∃gs,(Bk K H L gs∧gs.length≤41∧(C7 gs).length<60)∧(gs.length≤40∧(C7 gs).length≤8→∀H',Ai H H'→Q .non H')∧(¬(gs.length≤40∧(C7 gs).length≤8)→∀H',Ai H H'→ExN K "NoBook" E H')
 |_=>False
theorem Ng:Ao ["games"] ["games"] (Ag Fp):=⟨rfl,rfl,rfl,by decide +kernel,rfl,by decide +kernel,by decide +kernel⟩
theorem Nt (d:B0 K mg "check_size" Fp ["games"])(er:Bh K mg c_LadderError c_Ledger c_NoBook c_NoFit c_NoGame c_NoNumber c_NoPlayer c_NoRow c_NoTable c_Rule)(n_len:mg "len"=none)(v_MOST_PLAYERS:Wm mg "MOST_PLAYERS" (.int (8)))(v_MOST_GAMES:Wm mg "MOST_GAMES" (.int (40)))(c_players:Bf P w K mg base "players" ["games"] 1 (Hr K ns)):Bf P w K mg base "check_size" ["games"] 2 (Hf K ns):=by
 refine d.calX (k:=1) Ng (fun vs H Q E h=>?_) (fun f cdv A outer s H vs Q E hr h=>?_)
 ·match vs,h with
  |[.ref L],_=>rfl
 ·match vs,h with
  | [.ref L],hq0=>
   obtain ⟨gs,⟨bk,l41,l60⟩,k,kr⟩:=hq0
   refine ⟨_,(@Ae _ _ _ _ _ (@Ct _ _ _ _ _ _ _ _ (@Bw _ _ _ _ _ _ _ _ Abv (@Aq _ _ _ _ _ _ _ _ _ Cm (by rfl) n_len (by decide +kernel) (@Aa _ _ _ _ _ (dv 0) Ac (by rfl)) (by decide) (by decide) (by rfl) (by rfl)) (N1 v_MOST_GAMES (by rfl)) (@A1 _ _ (by decide) (by decide))) (@Af _ _ _ (@Dm _ _ _ _ _ _ _ _ _ _ _ _ _ _ _ _ _ _ _ _ _ _ _ er.b_NoBook er.x_NoBook (by rfl) (by decide))) A5) (@Af _ _ _ (@Ct _ _ _ _ _ _ _ _ (@Bw _ _ _ _ _ _ _ _ Abv (@Aq _ _ _ _ _ _ _ _ _ Cm (by rfl) n_len (by decide +kernel) (@Aa _ _ _ _ _ (@An _ _ _ _ _ _ _ _ _ _ _ c_players hr (by decide) (by rfl) (@Aa _ _ _ _ _ (dv 0) Ac (by rfl)) (by decide) (by rfl) (by rfl)) Ac (by rfl)) (by decide) (by decide) (by rfl) (by rfl)) (N1 v_MOST_PLAYERS (by rfl)) (@A1 _ _ (by decide) (by decide))) (@Af _ _ _ (@Dm _ _ _ _ _ _ _ _ _ _ _ _ _ _ _ _ _ _ _ _ _ _ _ er.b_NoBook er.x_NoBook (by rfl) (by decide))) A5))),?_⟩
   obtain ⟨vs,hx,hm,hl⟩:=id bk
   have lv:=hm.len
   refine ⟨_,.inl hx,⟨fun h=>kr (fun z=>?_) _ (Ai.refl _) _ er.y_NoBook,fun h=>⟨gs,⟨bk,by omega⟩,fun D H1 s1 n1 e1=>⟨_,.inl (A0.of e1),⟨fun h'=>kr (fun z=>?_) H1 s1 _ er.y_NoBook,fun h'=>k ⟨?_,?_⟩ H1 s1⟩⟩⟩⟩⟩
   ·have:=of_decide_eq_true h
    omega
   ·have:=of_decide_eq_true h'
    rw [List.length_map] at this
    omega
   ·have:=of_decide_eq_false h
    omega
   ·have:=of_decide_eq_false h'
    rw [List.length_map] at this
    omega
structure LFd (fs:List (Str×V))(A R:Addr)(last:Int):Prop where
 ke:fs.lookup ("kept":Str)=some (.ref A)
 la:fs.lookup ("last":Str)=some (.int last)
 ru:fs.lookup ("rule":Str)=some (.ref R)
 ws:fs.lookup ("worths":Str)=none
 wt:fs.lookup ("worth":Str)=none
 pu:fs.lookup ("put":Str)=none
 ta:fs.lookup ("take":Str)=none
 ga:fs.lookup ("games":Str)=none
 len:fs.length≤100
def Do (K:PySem.W.Frag)(H:Hp)(L A R:Addr)(es:List En)(last:Int):Prop:=∃C dx fs,H L=some (.ins C dx fs)∧PySem.W.nsIn K mainGlobals "Ledger"=some (some (.ref C))∧LFd fs A R last∧Aey H A es
structure Aau (nm:List Str)(es:List En)(last:Int):Prop where
 inc:K8 es
 le:∀e∈es,e.1≤last
 mem:∀e∈es,e.2.a∈nm∧e.2.b∈nm
def Fr3 (L A T:Addr)(H H':Hp):Prop:=∀b o,b≠L→b≠A→b≠T→H b=some o→H' b=some o
theorem Se {f:Str}{v:V}:∀{fs:List (Str×V)} {u:V},fs.lookup f=some u→(A8 f v fs).length=fs.length
 |[],_,h=>by cases h
 | (g,w)::fs,u,h=>by
  by_cases c:f=g
  ·subst c
   unfold A8
   rw [if_pos rfl]
   rfl
  ·have h:fs.lookup f=some u:=by
    rw [List.lookup_cons,show (f==g)=false from beq_eq_false_iff_ne.mpr c] at h
    exact h
   unfold A8
   rw [if_neg fun z=>c z.symm]
   exact congrArg (· + 1) (Se h)
theorem LFd.put {fs:List (Str×V)}{A R:Addr}{last m:Int}(h:LFd fs A R last):LFd (A8 "last" (.int m) fs) A R m:=by
 have:=Se (v:=.int m) h.la
 have:=h.len
 exact ⟨Av (by decide +kernel) h.ke,Hw,Av (by decide +kernel) h.ru,Av (by decide +kernel) h.ws,Av (by decide +kernel) h.wt,Av (by decide +kernel) h.pu,Av (by decide +kernel) h.ta,Av (by decide +kernel) h.ga,by omega⟩
theorem Ac1 {H H':Hp}{P x C dx:Addr}{fs:List (Str×V)}{pos:Pos}{q:Str}(h:Ay H P pos q)(s:Sx x H H')(hx:H x=some (.ins C dx fs)):Ay H' P pos q:=by
 obtain ⟨ps,h1,h2,h3⟩:=h
 refine ⟨ps,s _ _ (fun z=>by rw [z,hx] at h1;cases h1) h1,h2,h3.imp id ?_⟩
 rintro ⟨c,e1,e2⟩
 exact ⟨c,e1,s _ _ (fun z=>by rw [z,hx] at e2;cases e2) e2⟩
def Hg (K:PySem.W.Frag)(ns:List Int):Sp:=fun vs H Q E=>match vs with
 |[.ref L,v]=>∃(A R:Addr) (es:List En) (last:Int) (g:Gm) (nm:List Str),(Do K H L A R es last∧Aau nm es last∧es.length≤40∧nm.length≤20∧Ck H v g∧g.a∈nm∧g.b∈nm∧Ay H (Bi K) Bv Fl) ∧
  (es.length<40∧(C7 (es.map (·.2)++[g])).length≤8→∀r D H',Fr3 L A (Bi K) H H'→H' r=some (.tup [.int (last+1),.ref D])→Do K H' L A R (es++[(last+1,g)]) (last+1)→Ay H' (Bi K) Bv Fl→Q (.ref r) H') ∧
  (¬(es.length<40∧(C7 (es.map (·.2)++[g])).length≤8)→∀H',Ai H H'→ExN K "NoBook" E H')
 |_=>False
theorem Nd:Ao ["self","played"] ["self","played"] (Ag Ft):=⟨rfl,rfl,rfl,by decide +kernel,rfl,by decide +kernel,by decide +kernel⟩
theorem Nf (d:Dq K [c_Ledger] [] "put" "Ledger.put" Ft ["self","played"])(er:Bh K mg c_LadderError c_Ledger c_NoBook c_NoFit c_NoGame c_NoNumber c_NoPlayer c_NoRow c_NoTable c_Rule)(n_list:mg "list"=none)  (c_reached:Bf P w K mg base "reached" ["kept","number"] 5 (Hq K ns))(c_check_size:Bf P w K mg base "check_size" ["games"] 2 (Hf K ns)):Cr P w K mg base [c_Ledger] [] "put" ["self","played"] 6 (Hg K ns):=by
 refine d.calX (k:=5) Nd (fun vs H Q E h=>?_) (fun f cdv A outer s H vs Q E hr h=>?_)
 ·match vs,h with
  |[.ref L,v],_=>rfl
 ·match vs,h with
  | [.ref L,v],hq0=>
   obtain ⟨A,R,es,last,g,nm,⟨⟨C,dx,fs,eL,hC,fd,kvs,eA,al⟩,ok,l40,l20,hg,ga,gb,tk⟩,k,kr⟩:=hq0
   refine ⟨_,(@Ae _ _ _ _ _ (@Ci _ _ _ _ (@Vg _ _ _ _ _ _ _ _ _ _ _ _ _ _ _ _ _ _ _ _ _ _ _ _ _ c_check_size hr (by decide) (by rfl) (@Aa _ _ _ _ _ (@Aj _ _ _ _ _ _ _ _ Mw (@Sg _ _ _ _ _ _ _ (by rfl) n_list (@Bz _ _ _ _ _ (dv 0) (by rfl)) rfl (by rfl) (by rfl)) (@F5 _ _ _ _ (@Aa _ _ _ _ _ (dv 1) Ac (by rfl)))) Ac (by rfl)) (by decide) (by rfl) (by rfl)) (by rfl)) (@Ae _ _ _ _ _ (@Hu _ _ _ _ _ _ _ _ (dv 0) (@Aj _ _ _ _ _ _ _ _ Cl (@Bz _ _ _ _ _ (dv 0) (by rfl)) Ab) rfl) (@Ae _ _ _ _ _ (@Hb _ _ _ _ _ _ _ _ _ (@u1 _ _ hr.units) (@Bz _ _ _ _ _ (dv 0) (by rfl)) (@Bz _ _ _ _ _ (dv 0) (by rfl)) (dv 1) rfl) (@Af _ _ _ (@At _ _ _ _ (@Cj _ _ _ _ _ (@Aa _ _ _ _ _ (@Bz _ _ _ _ _ (dv 0) (by rfl)) (@Aa _ _ _ _ _ (@An _ _ _ _ _ _ _ _ _ _ _ c_reached hr (by decide) (by rfl) (@Aa _ _ _ _ _ (@Bz _ _ _ _ _ (dv 0) (by rfl)) (@Aa _ _ _ _ _ (@Bz _ _ _ _ _ (dv 0) (by rfl)) Ac (by rfl)) (by rfl)) (by decide) (by rfl) (by rfl)) Ac (by rfl)) (by rfl)))))))),?_⟩
   obtain ⟨pv,rfl,hpv⟩:=id hg
   have cl:M8 K C∧NoAttr K C "kept"∧NoAttr K C "last":=Bg er.y_Ledger hC▸⟨er.l_Ledger,er.na_Ledger_kept,er.na_Ledger_last⟩
   have nLA:A≠L:=fun z=>by rw [z,eL] at eA;cases eA
   refine ⟨L,C,dx,fs,_,rfl,eL,cl.1,cl.2.1,fd.ke,A,kvs,rfl,.inl eA,fun D0 H1 s1 n1 e1=>fun D1 H2 s2 e2=>⟨_,_,s2 _ _ e1,e2,?_,fun P H3 s3 e3=>?_⟩⟩
   ·rw [List.length_map,al.len]
    show es.length+1≤1000
    omega
   have s13:=s1.trans (s2.trans s3)
   have aP:Aw (Ck H3) (kvs.map (·.2)++[.ref pv]) (es.map (·.2)++[g]):=(Qe (al.imp fun kv e r=>Gb kv e _ _ (A6 s13) r)).snoc ⟨pv,rfl,s13 _ _ hpv⟩
   have lg:(es.map (·.2)++[g]).length=es.length+1:=by rw [List.length_append,List.length_map];rfl
   have memg:∀x∈es.map (·.2)++[g],x.a∈nm∧x.b∈nm:=fun x hx=>by
    rcases List.mem_append.mp hx with h|h
    ·obtain ⟨e,he,rfl⟩:=List.mem_map.mp h
     exact ok.mem e he
    ·rw [List.mem_singleton.mp h]
     exact ⟨ga,gb⟩
   have lpl:=Ab0 memg
   refine ⟨_,⟨⟨_,A0.of e3,aP,by omega⟩,by omega,by omega⟩,fun fit H4 s4=>?_,fun nf H4 s4=>kr (fun z=>nf ⟨by omega,z.2⟩) H4 (s13.trans s4)⟩
   have l39:es.length<40:=by omega
   have l8:=fit.2
   have k:=k ⟨l39,l8⟩
   have memP:∀x∈es.map (·.2)++[g],x.a∈C7 (es.map (·.2)++[g])∧x.b∈C7 (es.map (·.2)++[g]):=fun x hx=>⟨B4.mpr ⟨x,hx,.inl rfl⟩,B4.mpr ⟨x,hx,.inr rfl⟩⟩
   have s04:=s13.trans s4
   have eL4:=s04 _ _ eL
   have eA4:=s04 _ _ eA
   refine ⟨L,C,dx,fs,_,rfl,eL4,cl.1,cl.2.2,fd.la,L,C,dx,fs,rfl,eL4,cl.1,cl.2.2,by have:=fd.len;omega,?_⟩
   have x5:Sx L H4 (upd H4 L (.ins C dx (A8 "last" (.int (last+1)) fs))):=Sx.upd
   have eL5:upd H4 L (.ins C dx (A8 "last" (.int (last+1)) fs)) L=some (.ins C dx (A8 "last" (.int (last+1)) fs)):=Ad
   have fd5:=fd.put (m:=last+1)
   have kt5:Kt H4 (upd H4 L (.ins C dx (A8 "last" (.int (last+1)) fs))):=x5.kt eL4
   have tk5:Ay (upd H4 L (.ins C dx (A8 "last" (.int (last+1)) fs))) (Bi K) Bv Fl:=Ac1 (tk.up s04) x5 eL4
   generalize upd H4 L (.ins C dx (A8 "last" (.int (last+1)) fs))=H5 at x5 eL5 kt5 tk5
   have eA5:=x5 _ _ nLA eA4
   have lk:kvs.length<41:=by rw [al.len];omega
   refine ⟨L,C,dx,_,_,rfl,eL5,cl.1,cl.2.1,fd5.ke,L,C,dx,_,_,rfl,eL5,cl.1,cl.2.2,fd5.la,A,_,rfl,Nk.k (k:=Sum.inl (last+1)) eA5 (Nat.lt_of_lt_of_le lk (by decide)),?_⟩
   have nn:B1 kvs (Sum.inl (last+1))=none:=Ox al fun e he z=>by
    have:=ok.le e he
    omega
   rw [X7 _ nn]
   have x6:Sx A H5 (upd H5 A (.dK (kvs++[(Sum.inl (last+1),.ref pv)]))):=Sx.upd
   have eA6:upd H5 A (.dK (kvs++[(Sum.inl (last+1),.ref pv)])) A=some (.dK (kvs++[(Sum.inl (last+1),.ref pv)])):=Ad
   have kt6:Kt H5 (upd H5 A (.dK (kvs++[(Sum.inl (last+1),.ref pv)]))):=x6.kt' eA5
   have tk6:Ay (upd H5 A (.dK (kvs++[(Sum.inl (last+1),.ref pv)]))) (Bi K) Bv Fl:=Ej tk5 x6 (.inr ⟨_,eA5⟩)
   have eL6:=x6 _ _ (Ne.symm nLA) eL5
   generalize upd H5 A (.dK (kvs++[(Sum.inl (last+1),.ref pv)]))=H6 at x6 eA6 kt6 tk6 eL6
   have kt06:Kt H H6:=((A6 s04).trans kt5).trans kt6
   have al6:Aw (Lv H6) (kvs++[(Sum.inl (last+1),.ref pv)]) (es++[(last+1,g)]):=(al.imp fun kv e r=>Gb kv e _ _ kt06 r).snoc ⟨rfl,pv,rfl,kt06 _ _ hpv⟩
   have inc6:K8 (es++[(last+1,g)]):=List.pairwise_append.mpr ⟨ok.inc,List.pairwise_singleton ..,fun a ha b hb=>by
    rw [List.mem_singleton.mp hb]
    have:=ok.le a ha
    show a.1<last+1
    omega⟩
   have fr6:∀b o,b≠L→b≠A→H b=some o→H6 b=some o:=fun b o n1 n2 e=>x6 b o n2 (x5 b o n1 (s04 b o e))
   refine ⟨L,C,dx,_,_,rfl,eL6,cl.1,cl.2.2,fd5.la,L,C,dx,_,_,rfl,eL6,cl.1,cl.2.1,fd5.ke,L,C,dx,_,_,rfl,eL6,cl.1,cl.2.2,fd5.la,?_⟩
   refine ⟨es++[(last+1,g)],g,C7 (es.map (·.2)++[g]),⟨⟨_,eA6,al6⟩,inc6,by rw [List.length_append];show es.length+1≤40;omega,List.mem_append_right _ (List.mem_singleton.mpr rfl),tk6,l8,fun e he=>?_⟩,fun D H7 p sm nD eD tk7 stb=>fun R H8 s8 e8=>?_⟩
   ·refine memP _ ?_
    rcases List.mem_append.mp he with h|h
    ·exact List.mem_append_left _ (List.mem_map.mpr ⟨e,h,rfl⟩)
    ·rw [List.mem_singleton.mp h]
     exact List.mem_append_right _ (List.mem_singleton.mpr rfl)
   obtain ⟨ps,tt,_⟩:=tk6
   have nLT:L≠Bi K:=fun z=>by rw [z,tt] at eL6;cases eL6
   have nAT:A≠Bi K:=fun z=>by rw [z,tt] at eA6;cases eA6
   have kt7:Kt H6 H7:=fun q xs e=>sm q _ (fun z=>by rw [z,tt] at e;cases e) e
   have kt68:=kt7.trans (A6 s8)
   exact k R D H8 (fun b o n1 n2 n3 e=>s8 b o (sm b o n3 (fr6 b o n1 n2 e))) e8 ⟨C,dx,_,s8 _ _ (sm _ _ nLT eL6),hC,fd5,_,s8 _ _ (sm _ _ nAT eA6),al6.imp fun kv e r=>Gb kv e _ _ kt68 r⟩ (tk7.up s8)
def wo (es:List En)(n:Int):List En:=es.filter fun e=>decide (e.1≠n)
def Ea (K:PySem.W.Frag)(ns:List Int):Sp:=fun vs H Q E=>match vs with
 |[.ref L,.int n]=>∃(A R:Addr) (es:List En) (last:Int),(Do K H L A R es last∧K8 es∧es.length≤40∧(C7 (es.map (·.2))).length≤8∧Ay H (Bi K) Bv Fl) ∧
  (∀g,(n,g)∈es→∀D H',Fr3 L A (Bi K) H H'→Do K H' L A R (wo es n) last→Ay H' (Bi K) Bv Fl→Q (.ref D) H')∧((∀e∈es,e.1≠n)→∀H',Ai H H'→ExN K "NoGame" E H')
 |_=>False
theorem Gh:Ao ["self","number","found"] ["self","number"] (Ag E4):=⟨rfl,rfl,rfl,by decide +kernel,rfl,by decide +kernel,by decide +kernel⟩
theorem L6 (d:Dq K [c_Ledger] [] "take" "Ledger.take" E4 ["self","number"])(er:Bh K mg c_LadderError c_Ledger c_NoBook c_NoFit c_NoGame c_NoNumber c_NoPlayer c_NoRow c_NoTable c_Rule)   (c_reached:Bf P w K mg base "reached" ["kept","number"] 5 (Hq K ns)):Cr P w K mg base [c_Ledger] [] "take" ["self","number"] 6 (Ea K ns):=by
 refine d.calX (k:=5) Gh (fun vs H Q E h=>?_) (fun f cdv A outer s H vs Q E hr h=>?_)
 ·match vs,h with
  |[.ref L,.int n],_=>rfl
 ·match vs,h with
  | [.ref L,.int n],hq0=>
   obtain ⟨A,R,es,last,⟨⟨C,dx,fs,eL,hC,fd,kvs,eA,al⟩,inc,l40,l8,tk⟩,k,kr⟩:=hq0
   refine ⟨_,(@Ae _ _ _ _ _ (@Ct _ _ _ _ _ _ _ _ (@Acm _ _ _ _ _ _ (@u1 _ _ hr.units) (dv 1) (@Bz _ _ _ _ _ (dv 0) (by rfl)) (by with_unfolding_all rfl)) (@Af _ _ _ (@Dm _ _ _ _ _ _ _ _ _ _ _ _ _ _ _ _ _ _ _ _ _ _ _ er.b_NoGame er.x_NoGame (by rfl) (by decide))) A5) (@Ae _ _ _ _ _ (@Ar _ _ (2) _ _ _ _ Gh.nd rfl (by trivial) (@An _ _ _ _ _ _ _ _ _ _ _ c_reached hr (by decide) (by rfl) (@Aa _ _ _ _ _ (@Bz _ _ _ _ _ (dv 0) (by rfl)) (@Aa _ _ _ _ _ (dv 1) Ac (by rfl)) (by rfl)) (by decide) (by rfl) (by rfl)) (by rfl) (by trivial)) (@Ae _ _ _ _ _ (@Ci _ _ _ _ (@Zx _ _ _ _ _ _ _ (@Bz _ _ _ _ _ (dv 0) (by rfl)) (dv 1) ⟨rfl,rfl,rfl,rfl⟩) (by rfl)) (@Af _ _ _ (@At _ _ _ _ (dv 2)))))),?_⟩
   have cl:M8 K C∧NoAttr K C "kept":=Bg er.y_Ledger hC▸⟨er.l_Ledger,er.na_Ledger_kept⟩
   have nLA:A≠L:=fun z=>by rw [z,eL] at eA;cases eA
   have g1:Et H A (.int n) (B1 kvs (Sum.inl n)):=.inl ⟨kvs,Sum.inl _,.inl eA,rfl,rfl⟩
   by_cases c:∃g,(n,g)∈es
   rotate_left
   ·have no:∀e∈es,e.1≠n:=fun e he z=>c ⟨e.2,z▸he⟩
    rw [Ox al no] at g1
    exact ⟨L,C,dx,fs,_,rfl,eL,cl.1,cl.2,fd.ke,A,_,rfl,g1,⟨fun _=>kr no _ (Ai.refl _) _ er.y_NoGame,fun h=>nb h⟩⟩
   obtain ⟨g,hn⟩:=c
   obtain ⟨v0,hv0,_⟩:=Lu al inc hn
   rw [hv0] at g1
   refine ⟨L,C,dx,fs,_,rfl,eL,cl.1,cl.2,fd.ke,A,_,rfl,g1,⟨fun h=>nb h,fun _=>?_⟩⟩
   refine ⟨L,C,dx,fs,_,rfl,eL,cl.1,cl.2,fd.ke,es,g,C7 (es.map (·.2)),⟨⟨kvs,eA,al⟩,inc,l40,hn,tk,l8,fun e he=>⟨B4.mpr ⟨e.2,List.mem_map.mpr ⟨e,he,rfl⟩,.inl rfl⟩,B4.mpr ⟨e.2,List.mem_map.mpr ⟨e,he,rfl⟩,.inr rfl⟩⟩⟩,fun D H1 p sm nD eD tk1 stb=>?_⟩
   obtain ⟨ps,tt,_⟩:=id tk
   have nLT:L≠Bi K:=fun z=>by rw [z,tt] at eL;cases eL
   have nAT:A≠Bi K:=fun z=>by rw [z,tt] at eA;cases eA
   have eL1:=sm _ _ nLT eL
   have eA1:=sm _ _ nAT eA
   have kt1:Kt H H1:=fun q xs e=>sm q _ (fun z=>by rw [z,tt] at e;cases e) e
   refine ⟨L,C,dx,fs,_,rfl,eL1,cl.1,cl.2,fd.ke,A,rfl,.inl ⟨kvs,.inl eA1⟩,kvs,Sum.inl n,v0,eA1,rfl,hv0,?_⟩
   have x2:Sx A H1 (upd H1 A (.dK (Fg kvs (Sum.inl n)))):=Sx.upd
   have eA2:upd H1 A (.dK (Fg kvs (Sum.inl n))) A=some (.dK (Fg kvs (Sum.inl n))):=Ad
   have kt2:Kt H1 (upd H1 A (.dK (Fg kvs (Sum.inl n)))):=x2.kt' eA1
   have tk2:Ay (upd H1 A (.dK (Fg kvs (Sum.inl n)))) (Bi K) Bv Fl:=Ej tk1 x2 (.inr ⟨_,eA1⟩)
   have nDA:D≠A:=fun z=>by rw [z,eA] at nD;cases nD
   have eL2:=x2 _ _ (Ne.symm nLA) eL1
   have eD2:=x2 _ _ nDA eD
   generalize upd H1 A (.dK (Fg kvs (Sum.inl n)))=H2 at x2 eA2 kt2 tk2 eL2 eD2
   exact k g hn D H2 (fun b o n1 n2 n3 e=>x2 b o n2 (sm b o n3 e)) ⟨C,dx,fs,eL2,hC,fd,_,eA2,Vd (al.imp fun kv e r=>Gb kv e _ _ (kt1.trans kt2) r) n⟩ tk2
def Co (K:PySem.W.Frag)(ns:List Int):Sp:=fun vs H Q _=>match vs with
 |[.ref L]=>∃(A R:Addr) (es:List En) (last:Int),(Do K H L A R es last∧es.length≤40∧Ay H (Bi K) Bv Fl) ∧
  ∀D vs H' p,Rh (Bi K) H H'→H D=none→H' D=some (.lst vs)→Ay H' (Bi K) Bv Fl→Ll (dk (es.map (·.2))) (es.map (·.2)).length p→Aw (Ck H') vs (pg (es.map (·.2)) p)→Q (.ref D) H'
 |_=>False
theorem Lc:Ao ["self"] ["self"] (Ag Ec):=⟨rfl,rfl,rfl,by decide +kernel,rfl,by decide +kernel,by decide +kernel⟩
theorem K5 (d:Dq K [c_Ledger] [] "games" "Ledger.games" Ec ["self"])(er:Bh K mg c_LadderError c_Ledger c_NoBook c_NoFit c_NoGame c_NoNumber c_NoPlayer c_NoRow c_NoTable c_Rule)(n_list:mg "list"=none)  (c_in_order:Bf P w K mg base "in_order" ["games"] 3 (Ez K ns)):Cr P w K mg base [c_Ledger] [] "games" ["self"] 4 (Co K ns):=by
 refine d.cal (k:=3) Lc (fun vs H Q E h=>?_) (fun f cdv A outer s H vs Q E hr h=>?_)
 ·match vs,h with
  |[.ref L],_=>rfl
 ·match vs,h with
  |[.ref L],hq0=>
   obtain ⟨A,R,es,last,⟨⟨C,dx,fs,eL,hC,fd,kvs,eA,al⟩,l40,tk⟩,k⟩:=hq0
   refine ⟨_,(@Af _ _ _ (@At _ _ _ _ (@An _ _ _ _ _ _ _ _ _ _ _ c_in_order hr (by decide) (by rfl) (@Aa _ _ _ _ _ (@Sg _ _ _ _ _ _ _ (by rfl) n_list (@Bz _ _ _ _ _ (dv 0) (by rfl)) rfl (by rfl) (by rfl)) Ac (by rfl)) (by decide) (by rfl) (by rfl)))),?_⟩
   have cl:M8 K C∧NoAttr K C "kept":=Bg er.y_Ledger hC▸⟨er.l_Ledger,er.na_Ledger_kept⟩
   refine ⟨L,C,dx,fs,_,rfl,eL,cl.1,cl.2,fd.ke,A,kvs,rfl,.inl eA,fun D0 H1 s1 n1 e1=>?_⟩
   have a1:=Qe (al.imp fun kv e r=>Gb kv e _ _ (A6 s1) r)
   refine ⟨_,_,⟨A0.of e1,a1,by rw [List.length_map];omega,tk.up s1⟩,fun D H2 p sm nD eD tk2 stb=>?_⟩
   obtain ⟨ps,tt,_⟩:=tk.up s1
   have kt2:Kt H1 H2:=fun q xs e=>sm q _ (fun z=>by rw [z,tt] at e;cases e) e
   exact k D _ H2 p (fun b o ne e=>sm b o ne (s1 b o e)) (Bt s1 nD) eD tk2 stb (Sr (a1.imp fun v g r=>Dj v g _ _ kt2 r) fun i hi=>stb.2.1 i hi)
theorem Lh {H:Hp}{x dx C:Addr}(hx:H x=none)(hd:H dx=none)(ne:dx≠x):Ai H (upd (upd H dx (.own x)) x (.ins C dx [])):=(Al hd).trans (Al (by rw [Ak (Ne.symm ne)];exact hx))
def Ni (K:PySem.W.Frag)(H:Hp)(a:Addr)(so st fi one two:Int)(rows:List Rw):Prop:=∃C dx fs T,H a=some (.ins C dx fs)∧Kn K so C∧Fds fs so st fi one two T∧TbL H T rows
theorem Ni.up {K:PySem.W.Frag}{H H':Hp}{a:Addr}{so st fi one two:Int}{rows:List Rw}(s:Ai H H'):Ni K H a so st fi one two rows→Ni K H' a so st fi one two rows:=fun ⟨C,dx,fs,T,e,kn,f,vs,t1,t2⟩=>⟨C,dx,fs,T,s _ _ e,kn,f,vs,s _ _ t1,t2.imp fun v g r=>Dv v g _ _ (A6 s) r⟩
theorem Ni.at {K:PySem.W.Frag}{H:Hp}{a:Addr}{so st fi one two:Int}{rows:List Rw}:Ni K H a so st fi one two rows→Hh K H a so st fi one two rows:=fun ⟨C,dx,fs,T,e,kn,f,tb⟩=>⟨C,dx,fs,T,e,kn,f,tb.at⟩
def Fv (K:PySem.W.Frag)(ns:List Int):Sp:=fun vs H Q _=>match vs with
 |[.ref a]=>∃(st fi one two:Int) (rows:List Rw),(Ni K H a 0 st fi one two rows∧Jj rows)∧∀r H',Ai H H'→H r=none→Ni K H' r 0 st fi one two rows→Q (.ref r) H'
 |_=>False
theorem Qb:Ao ["self"] ["self"] (Ag G1):=⟨rfl,rfl,rfl,by decide +kernel,rfl,by decide +kernel,by decide +kernel⟩
theorem Qn (d:Dq K [c_Rule] [] "twin" "Rule.twin" G1 ["self"])(er:Bh K mg c_LadderError c_Ledger c_NoBook c_NoFit c_NoGame c_NoNumber c_NoPlayer c_NoRow c_NoTable c_Rule)   (c_Rule___init__:Cr P w K mg base [c_Rule] [] "__init__" ["self","step","first","table"] 6 (C8 K ns)):Cr P w K mg base [c_Rule] [] "twin" ["self"] 8 (Fv K ns):=by
 refine d.cal (k:=7) Qb (fun vs H Q E h=>?_) (fun f cdv A outer s H vs Q E hr h=>?_)
 ·match vs,h with
  |[.ref a],_=>rfl
 ·match vs,h with
  |[.ref a],hq0=>
   obtain ⟨st,fi,one,two,rows,⟨⟨C,dx,fs,T,e,kn,f,vs,eT,al⟩,good⟩,k⟩:=hq0
   refine ⟨_,(@Af _ _ _ (@At _ _ _ _ (@Oz _ _ _ _ _ _ _ _ _ _ _ _ _ _ c_Rule___init__ (List.Mem.head _) er.m_Rule hr (by decide) (by rfl) er.b_Rule (@Aa _ _ _ _ _ (@Bz _ _ _ _ _ (dv 0) (by rfl)) (@Aa _ _ _ _ _ (@Bz _ _ _ _ _ (dv 0) (by rfl)) (@Aa _ _ _ _ _ (@Bz _ _ _ _ _ (dv 0) (by rfl)) Ac (by rfl)) (by rfl)) (by rfl)) (by decide) (by rfl) (by rfl)))),?_⟩
   have hC:C=c_Rule:=Bg kn.2 er.y_Rule
   subst hC
   refine ⟨a,_,dx,fs,_,rfl,e,er.l_Rule,er.na_Rule_step,f.st,a,_,dx,fs,_,rfl,e,er.l_Rule,er.na_Rule_first,f.fi,a,_,dx,fs,_,rfl,e,er.l_Rule,er.na_Rule_table,f.tb,fun x dx' hx hd' ne=>?_⟩
   have s1:=Lh (C:=C) hx hd' ne
   have e1:upd (upd H dx' (.own x)) x (.ins C dx' []) x=some (.ins C dx' []):=Ad
   generalize upd (upd H dx' (.own x)) x (.ins C dx' [])=H1 at s1 e1
   have a1:=al.imp fun v g r=>Dv v g _ _ (A6 s1) r
   have fin:∀{T':Addr} {fs':List (Str×V)} {H2:Hp},Sx x H1 H2→H2 T'=some (.lst vs)→H2 x=some (.ins C dx' fs')→Fds fs' 0 st fi one two T'→Q (.ref x) H2:=fun {T' fs' H2} s2 eT' ex f'=>k x H2 (fun b o eb=>s2 b o (fun z=>by rw [z,hx] at eb;cases eb) (s1 b o eb)) hx ⟨C,dx',fs',T',ex,kn,f',vs,eT',a1.imp fun v g r=>Dv v g _ _ (s2.kt e1) r⟩
   refine ⟨_,dx',[],rows,vs,⟨e1,er.l_Rule,er.na_Rule_step,er.na_Rule_first,er.na_Rule_table,by decide,s1 _ _ eT,a1,good⟩,fun T' H2 s2 nT n1 eT' ex=>⟨rfl,?_⟩⟩
   have f0:=fd0 (st:=st) (fi:=fi) (T:=T') (fs:=[]) rfl
   exact fin s2 eT' ex ⟨f0.st,f0.fi,f0.tb,f0.sz,f0.bt,f0.tw⟩
def TwT (K:PySem.W.Frag)(T:List (Addr×Sp)):Prop:=∀so C,Kn K so C→∃sp,(C,sp)∈T∧∀a H st fi one two rows Q,Ni K H a so st fi one two rows→Jj rows→(∀r H',Ai H H'→H r=none→Ni K H' r so st fi one two rows→Q (.ref r) H')→sp [.ref a] H Q E0
theorem Ain {K:PySem.W.Frag}{ns:List Int}{c0:Addr}(y0:PySem.W.nsIn K mainGlobals "Rule"=some (some (.ref c0))):TwT K [(c0,Fv K ns)]:=by
 rintro so C ⟨rfl,h⟩
 have z:=Bg h y0
 subst z
 exact ⟨_,.head _,fun a H st fi one two rows Q hR g k=>⟨st,fi,one,two,rows,⟨hR,g⟩,k⟩⟩
def Ep (K:PySem.W.Frag)(ns:List Int):Sp:=fun vs H Q _=>match vs with
 |[.ref L,.ref a]=>∃(C0 dx0:Addr) (so st fi one two:Int) (rows:List Rw),(H L=some (.ins C0 dx0 [])∧PySem.W.nsIn K mainGlobals "Ledger"=some (some (.ref C0))∧Ni K H a so st fi one two rows∧Jj rows)∧∀A R H',Sx L H H'→H A=none→A≠L→H R=none→Do K H' L A R [] 0→Ni K H' R so st fi one two rows→Q .non H'
 |_=>False
theorem Hk:Ao ["self","rule"] ["self","rule"] (Ag Cy):=⟨rfl,rfl,rfl,by decide +kernel,rfl,by decide +kernel,by decide +kernel⟩
theorem Hm (d:Dq K [c_Ledger] [] "__init__" "Ledger.__init__" Cy ["self","rule"])(er:Bh K mg c_LadderError c_Ledger c_NoBook c_NoFit c_NoGame c_NoNumber c_NoPlayer c_NoRow c_NoTable c_Rule)   (c_Rule_twin:Cr P w K mg base [c_Rule] [] "twin" ["self"] 8 (Fv K ns)):Cr P w K mg base [c_Ledger] [] "__init__" ["self","rule"] 9 (Ep K ns):=by
 refine d.cal (k:=8) Hk (fun vs H Q E h=>?_) (fun f cdv A outer s H vs Q E hr h=>?_)
 ·match vs,h with
  |[.ref L,.ref a],_=>rfl
 ·match vs,h with
  | [.ref L,.ref a],hq0=>
   obtain ⟨C0,dx0,so,st,fi,one,two,rows,⟨eL,hC,hR,good⟩,k⟩:=hq0
   refine ⟨_,(@Ae _ _ _ _ _ (@Hu _ _ _ _ _ _ _ _ (dv 0) (@Dg _ _ _ _ _ _ _ _ _ (dv 1) (@B8 _ _ _ _ _ _ _ _ _ _ _ _ _ _ c_Rule_twin (List.Mem.head _) er.l_Rule (by decide) Cv) hr (by rfl)) rfl) (@Ae _ _ _ _ _ (@Hu _ _ _ _ _ _ _ _ (dv 0) Gw rfl) (@Af _ _ _ (@Hu _ _ _ _ _ _ _ _ (dv 0) Ab rfl)))),?_⟩
   have cl:M8 K C0∧NoAttr K C0 "rule"∧NoAttr K C0 "kept"∧NoAttr K C0 "last":=Bg er.y_Ledger hC▸⟨er.l_Ledger,er.na_Ledger_rule,er.na_Ledger_kept,er.na_Ledger_last⟩
   obtain ⟨C,dx,fs,T,e,kn,f,tb⟩:=id hR
   obtain ⟨sp,hm,hs⟩:=Ain (ns:=ns) er.y_Rule so C kn
   refine ⟨a,C,dx,fs,sp,rfl,e,hm,f.tw,hs a H st fi one two rows _ hR good fun r H1 s1 nr hr=>⟨L,C0,dx0,[],rfl,s1 _ _ eL,cl.1,cl.2.1,by decide,?_⟩⟩
   have nrL:r≠L:=fun z=>by rw [z,eL] at nr;cases nr
   have x2:Sx L H1 (upd H1 L (.ins C0 dx0 (A8 "rule" (.ref r) []))):=Sx.upd
   have e2:upd H1 L (.ins C0 dx0 (A8 "rule" (.ref r) [])) L=some (.ins C0 dx0 (A8 "rule" (.ref r) [])):=Ad
   have kt2:=x2.kt (s1 _ _ eL)
   have sx:∀{H':Hp},Sx L H1 H'→Kt H1 H'→Ni K H' r so st fi one two rows:=fun {H'} sx kt=>by
    obtain ⟨C',dx',fs',T',e',kn',f',vs',t1,t2⟩:=hr
    exact ⟨C',dx',fs',T',sx _ _ nrL e',kn',f',vs',sx _ _ (fun z=>by rw [z,s1 _ _ eL] at t1;cases t1) t1,t2.imp fun v g r=>Dv v g _ _ kt r⟩
   generalize upd H1 L (.ins C0 dx0 (A8 "rule" (.ref r) []))=H2 at x2 e2 kt2
   intro A hA
   have nAL:A≠L:=fun z=>by rw [z,e2] at hA;cases hA
   have s3:Ai H2 (upd H2 A (.dK [])):=Al hA
   have e3:upd H2 A (.dK []) A=some (.dK []):=Ad
   generalize upd H2 A (.dK [])=H3 at s3 e3
   have l1:=Ca "rule" (.ref r) []
   have l2:=Ca "kept" (.ref A) (A8 "rule" (.ref r) [])
   have l3:=Ca "last" (.int 0) (A8 "kept" (.ref A) (A8 "rule" (.ref r) []))
   have l0:([]:List (Str×V)).length=0:=rfl
   have e3L:=s3 _ _ e2
   refine ⟨L,C0,dx0,_,rfl,e3L,cl.1,cl.2.2.1,by omega,L,C0,dx0,_,rfl,Ad,cl.1,cl.2.2.2,by omega,?_⟩
   have x5:Sx L H1 (upd (upd H3 L (.ins C0 dx0 (A8 "kept" (.ref A) (A8 "rule" (.ref r) [])))) L (.ins C0 dx0 (A8 "last" (.int 0) (A8 "kept" (.ref A) (A8 "rule" (.ref r) []))))):=x2.trans (Sx.trans (Sx.of s3) (Sx.trans Sx.upd Sx.upd))
   have kt5:Kt H1 (upd (upd H3 L (.ins C0 dx0 (A8 "kept" (.ref A) (A8 "rule" (.ref r) [])))) L (.ins C0 dx0 (A8 "last" (.int 0) (A8 "kept" (.ref A) (A8 "rule" (.ref r) []))))):=x5.kt (s1 _ _ eL)
   refine k A r _ (Sx.trans (Sx.of s1) x5) ?_ nAL nr ⟨C0,dx0,_,Ad,hC,⟨Av (by decide +kernel) Hw,Hw,Av (by decide +kernel) (Av (by decide +kernel) Hw),Av (by decide +kernel) (Av (by decide +kernel) (Av (by decide +kernel) rfl)),Av (by decide +kernel) (Av (by decide +kernel) (Av (by decide +kernel) rfl)),Av (by decide +kernel) (Av (by decide +kernel) (Av (by decide +kernel) rfl)),Av (by decide +kernel) (Av (by decide +kernel) (Av (by decide +kernel) rfl)),Av (by decide +kernel) (Av (by decide +kernel) (Av (by decide +kernel) rfl)),by omega⟩,[],?_,.nil⟩ (sx x5 kt5)
   ·cases c:H A with
    |none=>rfl
    |some o=>
     rw [x2 A o nAL (s1 _ _ c)] at hA
     cases hA
   ·rw [Ak nAL,Ak nAL]
    exact e3
theorem Do.smt {K:PySem.W.Frag}{T L A R:Addr}{H H':Hp}{es:List En}{last:Int}{pos:Pos}{q:Str}(sm:Rh T H H')(tk:Ay H T pos q)(h:Do K H L A R es last):Do K H' L A R es last:=by
 obtain ⟨ps,tt,_⟩:=tk
 obtain ⟨C,dx,fs,eL,hC,fd,kvs,eA,al⟩:=h
 have kt:Kt H H':=fun p xs e=>sm p _ (fun z=>by rw [z,tt] at e;cases e) e
 exact ⟨C,dx,fs,sm _ _ (fun z=>by rw [z,tt] at eL;cases eL) eL,hC,fd,kvs,sm _ _ (fun z=>by rw [z,tt] at eA;cases eA) eA,al.imp fun kv e r=>Gb kv e _ _ kt r⟩
theorem Do.up {K:PySem.W.Frag}{H H':Hp}{L A R:Addr}{es:List En}{last:Int}(s:Ai H H')(h:Do K H L A R es last):Do K H' L A R es last:=by
 obtain ⟨C,dx,fs,eL,hC,fd,kvs,eA,al⟩:=h
 exact ⟨C,dx,fs,s _ _ eL,hC,fd,kvs,s _ _ eA,al.imp fun kv e r=>Gb kv e _ _ (A6 s) r⟩
theorem Do.sxl {K:PySem.W.Frag}{H:Hp}{L A R x:Addr}{es:List En}{last:Int}{zs:List V}{o:HO}(h:Do K H L A R es last)(e:H x=some (.lst zs)):Do K (upd H x o) L A R es last:=by
 obtain ⟨C,dx,fs,eL,hC,fd,kvs,eA,al⟩:=h
 have kt:Kt H (upd H x o):=E6 e
 refine ⟨C,dx,fs,?_,hC,fd,kvs,?_,al.imp fun kv e r=>Gb kv e _ _ kt r⟩
 ·rw [Ak fun z=>by rw [z,e] at eL;cases eL]
  exact eL
 ·rw [Ak fun z=>by rw [z,e] at eA;cases eA]
  exact eA
theorem Uo {gs:List Gm}:∀{p:List Nat},(∀i∈p,i<gs.length)→∀(i:Nat),(pg gs p)[i]? =(p[i]?).bind fun j=>gs[j]?
 |[],_,i=>by
  show ([]:List Gm)[i]? =_
  simp
 | j::p,h,i=>by
  have hj:=h j List.mem_cons_self
  have e:pg gs (j::p)=gs[j]::pg gs p:=by
   unfold pg
   rw [List.filterMap_cons,List.getElem?_eq_getElem hj]
  rw [e]
  cases i with
  |zero=>simp [List.getElem?_eq_getElem hj]
  |succ i=>
   rw [List.getElem?_cons_succ,List.getElem?_cons_succ]
   exact Uo (fun i hi=>h i (List.mem_cons_of_mem _ hi)) i
theorem Oy {gs:List Gm}:∀{p:List Nat},(∀i∈p,i<gs.length)→(pg gs p).length=p.length
 |[],_=>rfl
 | j::p,h=>by
  have hj:=h j List.mem_cons_self
  have e:pg gs (j::p)=gs[j]::pg gs p:=by
   unfold pg
   rw [List.filterMap_cons,List.getElem?_eq_getElem hj]
  rw [e,List.length_cons,List.length_cons,Oy fun i hi=>h i (List.mem_cons_of_mem _ hi)]
theorem Ad4 (gs:List Gm):pg gs (List.range gs.length)=gs:=by
 refine List.ext_getElem? fun i=>?_
 rw [Uo fun i hi=>List.mem_range.mp hi]
 by_cases h:i<gs.length
 ·rw [List.getElem?_range h]
  rfl
 ·rw [List.getElem?_eq_none (by rw [List.length_range];omega),List.getElem?_eq_none (by omega)]
  rfl
theorem Aag {gs:List Gm}{p q:List Nat}(hp:Ll (dk gs) gs.length p)(hq:Ll (dk (pg gs p)) (pg gs p).length q):pg (pg gs p) q=pg gs p:=by
 have l:(pg gs p).length=p.length:=Oy hp.2.1
 have dg:∀i (h:i<p.length),dk (pg gs p) i=dk gs p[i]:=fun i h=>by
  unfold dk
  rw [Uo hp.2.1,List.getElem?_eq_getElem h]
  rfl
 have hr:Ll (dk (pg gs p)) (pg gs p).length (List.range (pg gs p).length):=by
  refine ⟨List.length_range,fun i hi=>List.mem_range.mp hi,?_⟩
  refine List.pairwise_iff_getElem.mpr fun i j hi hj ij=>?_
  rw [List.length_range] at hi hj
  rw [List.getElem_range,List.getElem_range]
  show dk (pg gs p) i<dk (pg gs p) j∨dk (pg gs p) i=dk (pg gs p) j∧i<j
  rw [dg i (by omega),dg j (by omega)]
  rcases List.pairwise_iff_getElem.mp hp.2.2 i j (by omega) (by omega) ij with z|⟨z,_⟩
  ·exact .inl z
  ·exact .inr ⟨z,ij⟩
 rw [Mz hq hr,Ad4]
theorem Up {gs:List Gm}{p:List Nat}(hp:Ll (dk gs) gs.length p):C7 (pg gs p)=C7 gs:=Ix (Ch _) (Ch _) fun x=>by
 show x∈C7 (pg gs p)↔x∈C7 gs
 rw [B4,B4]
 exact ⟨fun ⟨g,h,c⟩=>⟨g,(Lk hp).mp h,c⟩,fun ⟨g,h,c⟩=>⟨g,(Lk hp).mpr h,c⟩⟩
def GOk (es:List En):Prop:=∀e∈es,(0≤e.2.h∧e.2.h≤2)∧e.2.a≠e.2.b
def C5 (K:PySem.W.Frag)(ns:List Int):Sp:=fun vs H Q _=>match vs with
 |[.ref L]=>∃(A R:Addr) (es:List En) (last so st fi one two:Int) (rows:List Rw),(Do K H L A R es last∧Hh K (Er (Bi K) H) R so st fi one two rows∧Tb rows∧Nb st one two∧Bd 40 fi∧es.length≤40∧GOk es∧Ay H (Bi K) Bv Fl∧(C7 (es.map (·.2))).length≤8) ∧
  ∀D vs H' p,Rh (Bi K) H H'→H D=none→H' D=some (.lst vs)→Ay H' (Bi K) Bv Fl→Ll (dk (es.map (·.2))) (es.map (·.2)).length p→Aw (Nr H') vs ((C7 (es.map (·.2))).map fun x=>(x,wq fi (Jm so st fi one two rows (fun _=>none) (pg (es.map (·.2)) p) x)))→Q (.ref D) H'
 |_=>False
theorem J7:Ao ["self"] ["self"] (Ag Dr):=⟨rfl,rfl,rfl,by decide +kernel,rfl,by decide +kernel,by decide +kernel⟩
theorem Kf (d:Dq K [c_Ledger] [] "worths" "Ledger.worths" Dr ["self"])(er:Bh K mg c_LadderError c_Ledger c_NoBook c_NoFit c_NoGame c_NoNumber c_NoPlayer c_NoRow c_NoTable c_Rule)   (c_running:Bf P w K mg base "running" ["rule","games"] 10 (Mp K ns))(c_Ledger_games:Cr P w K mg base [c_Ledger] [] "games" ["self"] 4 (Co K ns)):Cr P w K mg base [c_Ledger] [] "worths" ["self"] 11 (C5 K ns):=by
 refine d.cal (k:=10) J7 (fun vs H Q E h=>?_) (fun f cdv A outer s H vs Q E hr h=>?_)
 ·match vs,h with
  |[.ref L],_=>rfl
 ·match vs,h with
  | [.ref L],hq0=>
   obtain ⟨A,R,es,last,so,st,fi,one,two,rows,⟨lg,hR,tb,b,hf,l30,gok,tk,l8⟩,k⟩:=hq0
   refine ⟨_,(@Af _ _ _ (@At _ _ _ _ (@An _ _ _ _ _ _ _ _ _ _ _ c_running hr (by decide) (by rfl) (@Aa _ _ _ _ _ (@Bz _ _ _ _ _ (dv 0) (by rfl)) (@Aa _ _ _ _ _ (@Dg _ _ _ _ _ _ _ _ _ (dv 0) (@B8 _ _ _ _ _ _ _ _ _ _ _ _ _ _ c_Ledger_games (List.Mem.head _) er.l_Ledger (by decide) Cv) hr (by rfl)) Ac (by rfl)) (by rfl)) (by decide) (by rfl) (by rfl)))),?_⟩
   obtain ⟨C,dx,fs,eL,hC,fd,kp⟩:=id lg
   have cl:M8 K C∧NoAttr K C "rule":=Bg er.y_Ledger hC▸⟨er.l_Ledger,er.na_Ledger_rule⟩
   have hCc:=Bg hC er.y_Ledger
   subst hCc
   refine ⟨L,_,dx,fs,_,rfl,eL,cl.1,cl.2,fd.ru,L,_,dx,fs,_,rfl,eL,.head _,fd.ga,A,R,es,last,⟨lg,by omega,tk⟩,fun F fv H1 p sm nF eF tk1 stb aF=>?_⟩
   obtain ⟨ps,tt,_⟩:=id tk1
   have so1:Ai (Er (Bi K) H) (Er (Bi K) H1):=Lm (Iu E8 sm)
   have lpg:(pg (es.map (·.2)) p).length≤40:=by
    rw [Oy stb.2.1,stb.1,List.length_map]
    exact l30
   refine ⟨so,st,fi,one,two,rows,_,fv,⟨hR.up so1,tb,b,hf,A0.of (J9 tt eF fun _=>nofun),aF.imp fun v g r=>Dj v g _ _ (Ya tt) r,lpg,by rw [Up stb];exact l8,fun g hg=>?_,tk1⟩,fun D vs q H2 sm2 nD eD tk2 stb2 aD=>?_⟩
   ·obtain ⟨e,he,rfl⟩:=List.mem_map.mp (Jt hg)
    exact gok e he
   rw [Aag stb stb2,Up stb] at aD
   refine k D vs H2 p (fun b o ne e=>sm2 b o ne (sm b o ne e)) ?_ eD tk2 stb aD
   cases c:H D with
   |none=>rfl
   | some o=>
    exfalso
    by_cases z:D=Bi K
    ·rw [z,tt] at nD
     cases nD
    ·rw [sm D o z c] at nD
     cases nD
def F4 (K:PySem.W.Frag)(ns:List Int):Sp:=fun vs H Q E=>match vs with
 |[.ref L,.str n]=>∃gs,(Bk K H L gs∧(C7 gs).length<64)∧(n∈C7 gs→∀H',Ai H H'→Q .non H')∧(n∉C7 gs→∀H',Ai H H'→ExN K "NoPlayer" E H')
 |_=>False
theorem K9:Ao ["games","name"] ["games","name"] (Ag El):=⟨rfl,rfl,rfl,by decide +kernel,rfl,by decide +kernel,by decide +kernel⟩
theorem K7 (d:B0 K mg "check_player" El ["games","name"])(er:Bh K mg c_LadderError c_Ledger c_NoBook c_NoFit c_NoGame c_NoNumber c_NoPlayer c_NoRow c_NoTable c_Rule)   (c_players:Bf P w K mg base "players" ["games"] 1 (Hr K ns)):Bf P w K mg base "check_player" ["games","name"] 2 (F4 K ns):=by
 refine d.calX (k:=1) K9 (fun vs H Q E h=>?_) (fun f cdv A outer s H vs Q E hr h=>?_)
 ·match vs,h with
  |[.ref L,.str n],_=>rfl
 ·match vs,h with
  | [.ref L,.str n],hq0=>
   obtain ⟨gs,⟨hB,h64⟩,k1,k2⟩:=hq0
   refine ⟨_,(@Af _ _ _ (@Ct _ _ _ _ _ _ _ _ (@Bw _ _ _ _ _ _ _ _ Aa4 (dv 1) (@An _ _ _ _ _ _ _ _ _ _ _ c_players hr (by decide) (by rfl) (@Aa _ _ _ _ _ (dv 0) Ac (by rfl)) (by decide) (by rfl) (by rfl)) (by with_unfolding_all rfl)) (@Af _ _ _ (@Dm _ _ _ _ _ _ _ _ _ _ _ _ _ _ _ _ _ _ _ _ _ _ _ er.b_NoPlayer er.x_NoPlayer (by rfl) (by decide))) A5)),?_⟩
   refine ⟨gs,⟨hB,h64⟩,fun D1 H1 s1 d1 e1=>⟨_,.inl (A0.of e1),rfl,Ha _,?_⟩⟩
   rw [Io]
   by_cases c:n∈C7 gs
   ·rw [decide_eq_true c]
    exact ⟨fun h=>nb h,fun _=>k1 c H1 s1⟩
   ·rw [decide_eq_false c]
    exact ⟨fun _=>k2 c H1 s1 _ er.y_NoPlayer,fun h=>nb h⟩
theorem Q5 {H:Hp}{f:Str→Q2}:∀{l:List Str} {vs:List V},Aw (Nr H) vs (l.map fun x=>(x,f x))→∃kvs:List (Bl×V),Paired (fun v (kv:Bl×V)=>∃p,v=V.ref p∧H p=some (.tup [kV kv.1,kv.2])) vs kvs∧kvs.map (·.1)=l.map Sum.inr∧(l.Nodup→∀x∈l,∃p,B1 kvs (Sum.inr x)=some (.ref p)∧H p=some (.tup [.int (f x).1,.int (f x).2]))
 |[],_,.nil=>⟨[],.nil,rfl,fun _ x h=>by (cases h)⟩
 | y::l,_,.cons ⟨t,p,e,h0,h1⟩ r=>by
  obtain ⟨kvs,k1,k2,k3⟩:=Q5 (l:=l) r
  refine ⟨(Sum.inr y,.ref p)::kvs,.cons ⟨t,e,h0⟩ k1,by rw [List.map_cons,k2];rfl,fun nd x hx=>?_⟩
  obtain ⟨n1,n2⟩:=List.nodup_cons.mp nd
  rcases List.mem_cons.mp hx with rfl|hx
  ·exact ⟨p,Bn rfl,h1⟩
  ·obtain ⟨q,q1,q2⟩:=k3 n2 x hx
   refine ⟨q,?_,q2⟩
   rw [Bj]
   ·exact q1
   ·intro z
    exact n1 (Sum.inr.inj z▸hx)
def F3 (K:PySem.W.Frag)(ns:List Int):Sp:=fun vs H Q E=>match vs with
 |[.ref L,.str x]=>∃(A R:Addr) (es:List En) (last so st fi one two:Int) (rows:List Rw),(Do K H L A R es last∧Hh K (Er (Bi K) H) R so st fi one two rows∧Tb rows∧Nb st one two∧Bd 40 fi∧es.length≤40∧GOk es∧Ay H (Bi K) Bv Fl∧(C7 (es.map (·.2))).length≤8) ∧
  (x∈C7 (es.map (·.2))→∀q H' y,Rh (Bi K) H H'→Ay H' (Bi K) Bv Fl→H' q=some (.tup y)→Q (.ref q) H')∧(x∉C7 (es.map (·.2))→∀H',Rh (Bi K) H H'→Ay H' (Bi K) Bv Fl→ExN K "NoPlayer" E H')
 |_=>False
theorem Lb:Ao ["self","name"] ["self","name"] (Ag Eb):=⟨rfl,rfl,rfl,by decide +kernel,rfl,by decide +kernel,by decide +kernel⟩
theorem La (d:Dq K [c_Ledger] [] "worth" "Ledger.worth" Eb ["self","name"])(er:Bh K mg c_LadderError c_Ledger c_NoBook c_NoFit c_NoGame c_NoNumber c_NoPlayer c_NoRow c_NoTable c_Rule)(n_dict:mg "dict"=none)  (c_Ledger_worths:Cr P w K mg base [c_Ledger] [] "worths" ["self"] 11 (C5 K ns))(c_check_player:Bf P w K mg base "check_player" ["games","name"] 2 (F4 K ns))(c_Ledger_games:Cr P w K mg base [c_Ledger] [] "games" ["self"] 4 (Co K ns)):Cr P w K mg base [c_Ledger] [] "worth" ["self","name"] 12 (F3 K ns):=by
 refine d.calX (k:=11) Lb (fun vs H Q E h=>?_) (fun f cdv A outer s H vs Q E hr h=>?_)
 ·match vs,h with
  |[.ref L,.str x],_=>rfl
 ·match vs,h with
  | [.ref L,.str x],hq0=>
   obtain ⟨A,R,es,last,so,st,fi,one,two,rows,⟨lg,hR,tb,b,hf,l30,gok,tk,l8⟩,k,kr⟩:=hq0
   refine ⟨_,(@Ae _ _ _ _ _ (@Ci _ _ _ _ (@Vg _ _ _ _ _ _ _ _ _ _ _ _ _ _ _ _ _ _ _ _ _ _ _ _ _ c_check_player hr (by decide) (by rfl) (@Aa _ _ _ _ _ (@Dg _ _ _ _ _ _ _ _ _ (dv 0) (@B8 _ _ _ _ _ _ _ _ _ _ _ _ _ _ c_Ledger_games (List.Mem.head _) er.l_Ledger (by decide) Cv) hr (by rfl)) (@Aa _ _ _ _ _ (dv 1) Ac (by rfl)) (by rfl)) (by decide) (by rfl) (by rfl)) (by rfl)) (@Af _ _ _ (@At _ _ _ _ (@G8 _ _ _ _ _ _ (@u1 _ _ hr.units) (@Fd _ _ _ _ _ _ _ _ _ (@Aba _ rfl) (by rfl) n_dict (by decide +kernel) (@Aa _ _ _ _ _ (@Dg _ _ _ _ _ _ _ _ _ (dv 0) (@B8 _ _ _ _ _ _ _ _ _ _ _ _ _ _ c_Ledger_worths (List.Mem.head _) er.l_Ledger (by decide) Cv) hr (by rfl)) Ac (by rfl)) (by decide) (by decide) (by rfl) (by rfl)) (dv 1) (fun _ _=>rfl))))),?_⟩
   obtain ⟨C,dx,fs,eL,hC,fd,kp⟩:=id lg
   have hCc:=Bg hC er.y_Ledger
   subst hCc
   refine ⟨L,_,dx,fs,_,rfl,eL,.head _,fd.ga,A,R,es,last,⟨lg,by omega,tk⟩,fun F fv H1 p sm nF eF tk1 stb aF=>?_⟩
   have lpg:(pg (es.map (·.2)) p).length≤40:=by
    rw [Oy stb.2.1,stb.1,List.length_map]
    exact l30
   have pe':=Up stb
   refine ⟨_,⟨⟨fv,A0.of eF,aF,by omega⟩,by rw [pe'];omega⟩,fun hx H2 s2=>?_,fun hx H2 s2=>kr (by rw [←pe'];exact hx) H2 (fun b o ne e=>s2 b o (sm b o ne e)) (tk1.up s2)⟩
   rw [pe'] at hx
   have sm2:Rh (Bi K) H H2:=fun b o ne e=>s2 b o (sm b o ne e)
   have tk2:=tk1.up s2
   have lg2:=lg.smt sm2 tk
   obtain ⟨C2,dx2,fs2,eL2,hC2,fd2,_⟩:=id lg2
   have hCc:=Bg hC2 er.y_Ledger
   subst hCc
   have so2:Ai (Er (Bi K) H) (Er (Bi K) H2):=Lm (Iu E8 sm2)
   refine ⟨L,_,dx2,fs2,_,rfl,eL2,.head _,fd2.ws,A,R,es,last,so,st,fi,one,two,rows,⟨lg2,hR.up so2,tb,b,hf,l30,gok,tk2,l8⟩,fun D vs H3 p3 sm3 nD eD tk3 stb3 aD=>?_⟩
   obtain ⟨kvs,k1,k2,k3⟩:=Q5 aD
   have nd:(C7 (es.map (·.2))).Nodup:=D6 (Ch _)
   have lk:kvs.length≤8:=by
    have:=congrArg List.length k2
    rw [List.length_map,List.length_map] at this
    omega
   refine ⟨vs,kvs,A0.of eD,k1,by rw [k2];exact List.pairwise_map.mpr (nd.imp fun h z=>h (Sum.inr.inj z)),by omega,fun D4 hD4=>?_⟩
   obtain ⟨q,q1,q2⟩:=k3 nd x hx
   have s4:Ai H3 (upd H3 D4 (.dK kvs)):=Al hD4
   have gx:Et (upd H3 D4 (.dK kvs)) D4 (.str x) (B1 kvs (Sum.inr x)):=.inl ⟨kvs,Sum.inr x,.inl Ad,rfl,rfl⟩
   rw [q1] at gx
   exact ⟨D4,_,rfl,gx,k hx q _ _ (fun b o ne e=>s4 b o (sm3 b o ne (sm2 b o ne e))) (tk3.up s4) (s4 _ _ q2)⟩
def Xe (H:Hp)(v:V)(e:En):Prop:=∃t p,v=.ref t∧H t=some (.tup [.int e.1,.ref p])∧H p=some (.tup [.int e.2.d,.str e.2.a,.str e.2.b,.int e.2.h,.int e.2.s])
theorem He (v:V)(e:En)(H H':Hp)(k:Kt H H')(h:Xe H v e):Xe H' v e:=by
 obtain ⟨t,p,z,h0,h1⟩:=h
 exact ⟨t,p,z,k _ _ h0,k _ _ h1⟩
def d0:En:=(0,⟨0,⟨#[]⟩,⟨#[]⟩,0,0⟩)
def lx (a b:En):Prop:=a.2.d<b.2.d∨a.2.d=b.2.d∧a.1<b.1
def Vb (x:Str×Q2):PyData:=.tuple [.str x.1,.tuple [.int x.2.1,.int x.2.2]]
theorem Y2 {K:PySem.W.Frag}{H:Hp}:∀{vs:List V} {ss:List (Str×Q2)},Aw (Nr H) vs ss→Pb K H vs (ss.map Vb)
 |_,_,.nil=>.nil
 |_,_,.cons ⟨t,p,e,h0,h1⟩ r=>by
  subst e
  exact .cons (.tup (Ed.of h0) (.cons (.str _) (.cons (.tup (Ed.of h1) (.cons (.int _) (.cons (.int _) .nil))) .nil))) (Y2 r)
theorem Adk:∀{ss:List (Str×Q2)},(∀s∈ss,PyData.strOk s.1=true)→PyData.canLayAll0 (ss.map Vb)=true
 |[],_=>rfl
 |s::ss,h=>by
  have h1:=h s List.mem_cons_self
  show (((PyData.strOk s.1&&((true&&(true&&true))&&true)))&&PyData.canLayAll0 (ss.map Vb))=true
  rw [h1,Adk fun s hs=>h s (List.mem_cons_of_mem _ hs)]
  rfl
theorem Aan:∀(ss:List (Str×Q2)),PyData.depthAll (ss.map Vb)≤2
 |[]=>Nat.zero_le _
 |s::ss=>by
  have e:(Vb s).depth=2:=rfl
  show max (Vb s).depth (PyData.depthAll (ss.map Vb))≤2
  rw [e]
  have:=Aan ss
  omega
theorem Ai1 {ss:List (Str×Q2)}(h:∀s∈ss,PyData.strOk s.1=true):SeqAt.shaped (.list (ss.map Vb))=true:=by
 unfold SeqAt.shaped
 have e:(PyData.list (ss.map Vb)).depth=PyData.depthAll (ss.map Vb)+1:=rfl
 have:=Aan ss
 rw [show (PyData.list (ss.map Vb)).canLay0=true from Adk h,e,Bool.true_and]
 exact decide_eq_true (by omega)
theorem Te:∀{es:List En},K8 es→∀{i:Nat} {e:En},es[i]? =some e→wo es e.1=es.eraseIdx i
 | x::es,h,0,e,he=>by
  have:x=e:=Option.some.inj he
  subst this
  unfold wo
  rw [List.filter_cons_of_neg (by simp)]
  exact List.filter_eq_self.mpr fun y hy=>by
   have:=Iy h y hy
   simpa using this
 |x::es,h,i+1,e,he=>by
  have he:es[i]? =some e:=he
  have ne:=Iy h e (List.mem_of_getElem? he)
  unfold wo
  rw [List.filter_cons_of_pos (by simpa using fun z=>ne z.symm)]
  show x::_=x::es.eraseIdx i
  rw [←Te (List.pairwise_cons.mp h).2 he]
  rfl
theorem Hv {α β:Type}{R:α→β→Prop}:∀{l:List α} {m:List β} (i:Nat),Aw R l m→Aw R (l.eraseIdx i) (m.eraseIdx i)
 |_,_,_,.nil=>.nil
 |_,_,0,.cons _ t=>t
 |_,_,i+1,.cons h t=>.cons h (Hv i t)
theorem Iz {K:PySem.W.Frag}{L A R T:Addr}{H H':Hp}{es:List En}{last:Int}{pos:Pos}{q:Str}(h:Fr3 L A T H H')(lg:Do K H L A R es last)(tk:Ay H T pos q):(∀b xs,H b=some (.lst xs)→H' b=some (.lst xs))∧Kt H H':=by
 obtain ⟨C,dx,fs,eL,_,_,kvs,eA,_⟩:=lg
 obtain ⟨ps,eT,_⟩:=tk
 refine ⟨fun b xs e=>h b _ ?_ ?_ ?_ e,fun b xs e=>h b _ ?_ ?_ ?_ e⟩
 ·exact fun z=>by rw [z,eL] at e;cases e
 ·exact fun z=>by rw [z,eA] at e;cases e
 ·exact fun z=>by rw [z,eT] at e;cases e
 ·exact fun z=>by rw [z,eL] at e;cases e
 ·exact fun z=>by rw [z,eA] at e;cases e
 ·exact fun z=>by rw [z,eT] at e;cases e
theorem Zu {L A T:Addr}{N H H':Hp}(h:Fr3 L A T H H')(s:Ai N H)(n1:N L=none)(n2:N A=none)(n3:N T=none):Ai N H':=fun b o e=>h b o (fun z=>by rw [z,n1] at e;cases e) (fun z=>by rw [z,n2] at e;cases e) (fun z=>by rw [z,n3] at e;cases e) (s b o e)
theorem Zh {u n:Nat}(h:u<n):seqIndex? (u:Int) n=some u:=by
 unfold seqIndex?
 simp only []
 rw [if_neg (show ¬(u:Int)<0 by omega)]
 rw [if_pos (by rw [Bool.and_eq_true];exact ⟨decide_eq_true (by omega),decide_eq_true (by omega)⟩)]
 rfl
theorem Acp {K:PySem.W.Frag}{X R:Addr}{H:Hp}{so st fi one two:Int}{rows:List Rw}(h:Ni K H R so st fi one two rows)(n:R≠X)(hx:(∀zs,H X≠some (.lst zs))∧∀zs,H X≠some (.tup zs)):Ni K (Er X H) R so st fi one two rows:=by
 have at':∀{b:Addr} {o:HO},b≠X→H b=some o→Er X H b=some o:=fun ne e=>by
  unfold Er
  rw [if_neg ne]
  exact e
 obtain ⟨C,dx,fs,T,e,kn,f,vs,t1,t2⟩:=h
 exact ⟨C,dx,fs,T,at' n e,kn,f,vs,at' (fun z=>hx.1 vs (z▸t1)) t1,t2.imp fun v g r=>Dv v g _ _ (fun p xs e=>at' (fun z=>hx.2 xs (z▸e)) e) r⟩
theorem X3 {X b:Addr}{H:Hp}{o:HO}(n:b≠X)(e:H b=some o):Er X H b=some o:=by
 unfold Er
 rw [if_neg n]
 exact e
theorem Zn {X:Addr}{H:Hp}:Er X H X=none:=by
 unfold Er
 rw [if_pos rfl]
theorem Ud {K:PySem.W.Frag}{N H':Hp}{R:Addr}{so st fi one two:Int}{rows:List Rw}(h:Ni K N R so st fi one two rows)(nT:N (Bi K)=none)(s:Ai N H'):Hh K (Er (Bi K) H') R so st fi one two rows:=h.at.up fun b o e=>X3 (fun z=>by rw [z,nT] at e;cases e) (s b o e)
theorem Ahm {T:Addr}{N H H':Hp}(s:Ai N H)(sm:Rh T H H')(n:N T=none):Ai N H':=fun b o e=>sm b o (fun z=>by rw [z,n] at e;cases e) (s b o e)
theorem Lj {T:Addr}{H H':Hp}{pos:Pos}{q:Str}(sm:Rh T H H')(tk:Ay H T pos q):(∀b xs,H b=some (.lst xs)→H' b=some (.lst xs))∧Kt H H':=by
 obtain ⟨ps,tt,_⟩:=tk
 exact ⟨fun b xs e=>sm b _ (fun z=>by rw [z,tt] at e;cases e) e,fun b xs e=>sm b _ (fun z=>by rw [z,tt] at e;cases e) e⟩
theorem Aa8 {nm:List Str}{es:List En}{last:Int}{g:Gm}(ok:Aau nm es last)(ga:g.a∈nm)(gb:g.b∈nm):Aau nm (es++[(last+1,g)]) (last+1):=by
 refine ⟨List.pairwise_append.mpr ⟨ok.inc,List.pairwise_singleton ..,fun a ha b hb=>?_⟩,fun e he=>?_,fun e he=>?_⟩
 ·rw [List.mem_singleton.mp hb]
  have:=ok.le a ha
  show a.1<last+1
  omega
 ·rcases List.mem_append.mp he with h|h
  ·have:=ok.le e h
   omega
  ·rw [List.mem_singleton.mp h]
   exact Int.le_refl _
 ·rcases List.mem_append.mp he with h|h
  ·exact ok.mem e h
  ·rw [List.mem_singleton.mp h]
   exact ⟨ga,gb⟩
def RfL (i:Nat):List V:=[.bl (i==0),.bl (i==1),.bl (i==2),.bl true,.bl false]
def Py (H:Hp)(t:Addr)(i:Nat):Prop:=∃m,H t=some (.tup [.str "refused",.ref m])∧H m=some (.lst (RfL i))
def Aei (es:List En)(g:Gm):Prop:=es.length<40∧(C7 (es.map (·.2)++[g])).length≤8
def Ee (K:PySem.W.Frag)(ns:List Int):Sp:=fun vs H Q _=>match vs with
 | [.ref L,.str w,v]=>
  (w="put"∧∃(A R:Addr) (es:List En) (last:Int) (g:Gm) (nm:List Str),(Do K H L A R es last∧Aau nm es last∧es.length≤40∧nm.length≤20∧Ck H v g∧g.a∈nm∧g.b∈nm∧Ay H (Bi K) Bv Fl) ∧
   (Aei es g→∀t r D H',Fr3 L A (Bi K) H H'→H' t=some (.tup [.str "told",.ref r])→H' r=some (.tup [.int (last+1),.ref D])→Do K H' L A R (es++[(last+1,g)]) (last+1)→Ay H' (Bi K) Bv Fl→Q (.ref t) H')∧(¬Aei es g→∀t H',Ai H H'→Py H' t 0→Q (.ref t) H')) ∨
  (w="take"∧∃(n:Int) (A R:Addr) (es:List En) (last:Int),v=.int n∧(Do K H L A R es last∧K8 es∧es.length≤40∧(C7 (es.map (·.2))).length≤8∧Ay H (Bi K) Bv Fl) ∧
   (∀g,(n,g)∈es→∀t D H',Fr3 L A (Bi K) H H'→H' t=some (.tup [.str "told",.ref D])→Do K H' L A R (wo es n) last→Ay H' (Bi K) Bv Fl→Q (.ref t) H')∧((∀e∈es,e.1≠n)→∀t H',Ai H H'→Py H' t 1→Q (.ref t) H')) ∨
  (w="worth"∧∃(x:Str) (A R:Addr) (es:List En) (last so st fi one two:Int) (rows:List Rw),v=.str x∧(Do K H L A R es last∧Hh K (Er (Bi K) H) R so st fi one two rows∧Tb rows∧Nb st one two∧Bd 40 fi∧es.length≤40∧GOk es∧Ay H (Bi K) Bv Fl∧(C7 (es.map (·.2))).length≤8) ∧
   (x∈C7 (es.map (·.2))→∀t q y H',Rh (Bi K) H H'→Ay H' (Bi K) Bv Fl→H' t=some (.tup [.str "told",.ref q])→H' q=some (.tup y)→Q (.ref t) H')∧(x∉C7 (es.map (·.2))→∀t H',Rh (Bi K) H H'→Ay H' (Bi K) Bv Fl→Py H' t 2→Q (.ref t) H'))
 |_=>False
theorem Cf:Ao ["_law_ledger","_law_word","_law_thing","_law_marks","_law_told","e"] ["_law_ledger","_law_word","_law_thing"] (Ag Jr):=⟨rfl,rfl,rfl,by decide +kernel,rfl,by decide +kernel,by decide +kernel⟩
theorem Ua (d:B0 K mg "_law_asked" Jr ["_law_ledger","_law_word","_law_thing"])(er:Bh K mg c_LadderError c_Ledger c_NoBook c_NoFit c_NoGame c_NoNumber c_NoPlayer c_NoRow c_NoTable c_Rule)(n_isinstance:mg "isinstance"=none)(n_ValueError:mg "ValueError"=none)  (c_Ledger_put:Cr P w K mg base [c_Ledger] [] "put" ["self","played"] 6 (Hg K ns))(c_Ledger_take:Cr P w K mg base [c_Ledger] [] "take" ["self","number"] 6 (Ea K ns))(c_Ledger_worth:Cr P w K mg base [c_Ledger] [] "worth" ["self","name"] 12 (F3 K ns)):Bf P w K mg base "_law_asked" ["_law_ledger","_law_word","_law_thing"] 13 (Ee K ns):=by
 refine d.cal (k:=12) Cf (fun vs H Q E h=>?_) (fun f cdv A outer s H vs Q E hr h=>?_)
 ·match vs,h with
  |[.ref L,.str w,v],_=>rfl
 ·match vs,h with
  | [.ref L,.str w,v],hq0=>
   have hh:=hq0
   refine ⟨_,(@Ae _ _ _ _ _ (@Ar _ _ (3) _ _ _ _ Cf.nd rfl (by trivial) (@Em _ _ _ _ Ac) (by rfl) (by trivial)) (@Ae _ _ _ _ _ (@Ar _ _ (4) _ _ _ _ Cf.nd rfl (by trivial) Afb (by rfl) (by trivial)) (@Dc _ _ _ _ _ (@Acg _ _ _ _ _ _ _ (5) _ _ _ _ _ ⟨rfl,rfl,rfl⟩ (fun σ0 p0 Eh=>(@Af _ _ _ (@Ct _ _ _ _ _ _ _ _ (@Bw _ _ _ _ _ _ _ _ G4 (dv 1) C4 (@A1 _ _ (by decide) (by decide))) (@Af _ _ _ (@Ar _ _ (4) _ _ _ _ Cf.nd rfl (by trivial) (@Px _ _ _ _ _ _ _ _ _ _ _ _ _ _ _ (dv 0) (@B8 _ _ _ _ _ _ _ _ _ _ _ _ _ _ c_Ledger_put (List.Mem.head _) er.l_Ledger (by decide) Cv) hr (@Aa _ _ _ _ _ (dv 2) Ac (by rfl)) (by rfl) (by rfl) (by rfl)) (by rfl) (by trivial))) (@Af _ _ _ (@Ct _ _ _ _ _ _ _ _ (@Bw _ _ _ _ _ _ _ _ G4 (dv 1) C4 (@A1 _ _ (by decide) (by decide))) (@Af _ _ _ (@Ar _ _ (4) _ _ _ _ Cf.nd rfl (by trivial) (@Px _ _ _ _ _ _ _ _ _ _ _ _ _ _ _ (dv 0) (@B8 _ _ _ _ _ _ _ _ _ _ _ _ _ _ c_Ledger_take (List.Mem.head _) er.l_Ledger (by decide) Cv) hr (@Aa _ _ _ _ _ (dv 2) Ac (by rfl)) (by rfl) (by rfl) (by rfl)) (by rfl) (by trivial))) (@Af _ _ _ (@Ar _ _ (4) _ _ _ _ Cf.nd rfl (by trivial) (@Px _ _ _ _ _ _ _ _ _ _ _ _ _ _ _ (dv 0) (@B8 _ _ _ _ _ _ _ _ _ _ _ _ _ _ c_Ledger_worth (List.Mem.head _) er.l_Ledger (by decide) Cv) hr (@Aa _ _ _ _ _ (dv 2) Ac (by rfl)) (by rfl) (by rfl) (by rfl)) (by rfl) (by trivial)))))))) (by rfl) er.b_LadderError er.x_LadderError.cat Cf.nd rfl rfl (fun v=>(@Ae _ _ _ _ _ (@Ar _ _ (3) _ _ _ _ Cf.nd rfl (by trivial) (@Em _ _ _ _ (@Aa _ _ _ _ _ (@Aq _ _ _ _ _ _ _ _ _ (show B6 _ (.builtin "isinstance") (R9 K) from Pa) (by rfl) n_isinstance (by decide +kernel) (@Aa _ _ _ _ _ (dv 5) (@Aa _ _ _ _ _ (@Ev _ _ (.ref c_NoBook) _ _ (by rfl) er.b_NoBook rfl (by decide)) Ac (by rfl)) (by rfl)) (by decide) (by decide) (by rfl) (by rfl)) (@Aa _ _ _ _ _ (@Aq _ _ _ _ _ _ _ _ _ (show B6 _ (.builtin "isinstance") (R9 K) from Pa) (by rfl) n_isinstance (by decide +kernel) (@Aa _ _ _ _ _ (dv 5) (@Aa _ _ _ _ _ (@Ev _ _ (.ref c_NoGame) _ _ (by rfl) er.b_NoGame rfl (by decide)) Ac (by rfl)) (by rfl)) (by decide) (by decide) (by rfl) (by rfl)) (@Aa _ _ _ _ _ (@Aq _ _ _ _ _ _ _ _ _ (show B6 _ (.builtin "isinstance") (R9 K) from Pa) (by rfl) n_isinstance (by decide +kernel) (@Aa _ _ _ _ _ (dv 5) (@Aa _ _ _ _ _ (@Ev _ _ (.ref c_NoPlayer) _ _ (by rfl) er.b_NoPlayer rfl (by decide)) Ac (by rfl)) (by rfl)) (by decide) (by decide) (by rfl) (by rfl)) (@Aa _ _ _ _ _ (@Aq _ _ _ _ _ _ _ _ _ (show B6 _ (.builtin "isinstance") (R9 K) from Pa) (by rfl) n_isinstance (by decide +kernel) (@Aa _ _ _ _ _ (dv 5) (@Aa _ _ _ _ _ (W3 "ValueError" (by rfl) n_ValueError (by decide +kernel)) Ac (by rfl)) (by rfl)) (by decide) (by decide) (by rfl) (by rfl)) Ac (by rfl)) (by rfl)) (by rfl)) (by rfl))) (by rfl) (by trivial)) (@Af _ _ _ (@Ci _ _ _ _ (show PE _ _ (tBM K "list" Uw _ _) from (Kz PySem.F.plainAttrs_list PySem.F.slot_list_append PySem.F.type_list_append D5 (dv 3) (Aa (Aq (show B6 _ (.builtin "isinstance") (Adp K) from Ag4) (by rfl) n_isinstance (by decide +kernel) (Aa (dv 5) (Aa (Cj (Aa (Ev (v:=.ref c_NoFit) (by rfl) er.b_NoFit rfl) (Aa (Ev (v:=.ref c_NoNumber) (by rfl) er.b_NoNumber rfl) (Aa (Ev (v:=.ref c_NoRow) (by rfl) er.b_NoRow rfl) (Aa (Ev (v:=.ref c_NoTable) (by rfl) er.b_NoTable rfl) Ac))))) Ac))) Ac))) (by rfl))))) (by decide)) (@Ae _ _ _ _ _ (@Ct _ _ _ _ _ _ _ _ (@Bw _ _ _ _ _ _ _ _ (@Iv _ hr.units) (dv 3) (@Em _ _ _ _ Ac) (@A1 _ _ (by decide) (by decide))) (@Af _ _ _ (@At _ _ _ _ (@Cj _ _ _ _ _ (@Aa _ _ _ _ _ C4 (@Aa _ _ _ _ _ (dv 4) Ac (by rfl)) (by rfl))))) A5) (@Af _ _ _ (@At _ _ _ _ (@Cj _ _ _ _ _ (@Aa _ _ _ _ _ C4 (@Aa _ _ _ _ _ (dv 3) Ac (by rfl)) (by rfl))))))))),?_⟩
   refine ⟨by decide,fun M hM=>?_⟩
   have s1:Ai H (upd H M (.lst [])):=Al hM
   have e1:upd H M (.lst []) M=some (.lst []):=Ad
   generalize upd H M (.lst [])=H1 at s1 e1
   refine ⟨fun σ H'=>(∃tv:V,σ=[some (.ref L),some (.str w),some v,some (.ref M),some tv,none]∧H' M=some (.lst [])∧∀t H'',Ai H' H''→H'' t=some (.tup [.str "told",tv])→Q (.ref t) H'')∨∃(m:Addr) (i:Nat),σ=[some (.ref L),some (.str w),some v,some (.ref m),some .non,none]∧H' m=some (.lst (RfL i))∧∀t H'',Ai H' H''→H'' t=some (.tup [.str "refused",.ref m])→Q (.ref t) H'',?_,?_⟩
   rotate_left
   ·rintro σ H2 (⟨tv,rfl,e2,kt⟩|⟨m,i,rfl,e2,kt⟩)
    ·refine ⟨by decide,fun Z hZ=>?_⟩
     have s3:Ai H2 (upd H2 Z (.lst [])):=Al hZ
     exact ⟨_,_,.lst (A0.of (s3 _ _ e2)) .nil,.lst (A0.of Ad) .nil,rfl,rfl,⟨fun _=>fun t H4 s4 e4=>kt t H4 (s3.trans s4) e4,fun h=>nb h⟩⟩
    ·refine ⟨by decide,fun Z hZ=>?_⟩
     have s3:Ai H2 (upd H2 Z (.lst [])):=Al hZ
     exact ⟨_,_,.lst (A0.of (s3 _ _ e2)) (.cons (.bl _) (.cons (.bl _) (.cons (.bl _) (.cons (.bl _) (.cons (.bl _) .nil))))),.lst (A0.of Ad) .nil,rfl,rfl,⟨fun h=>nb h,fun _=>fun t H4 s4 e4=>kt t H4 (s3.trans s4) e4⟩⟩
   have cls:∀{H':Hp} {A R:Addr} {es':List En} {last':Int},Do K H' L A R es' last'→∃dx fs,H' L=some (.ins c_Ledger dx fs)∧LFd fs A R last':=fun h=>by
    obtain ⟨C,dx,fs,eL,hC,fd,_⟩:=h
    have hCc:=Bg hC er.y_Ledger
    subst hCc
    exact ⟨dx,fs,eL,fd⟩
   rcases hh with ⟨rfl,A,R,es,last,g,nm,⟨lg,ok,l40,l20,hg,ga,gb,tk⟩,k,kr⟩|⟨rfl,n,A,R,es,last,rfl,⟨lg,inc,l40,l8,tk⟩,k,kr⟩|⟨rfl,x,A,R,es,last,so,st,fi,one,two,rows,rfl,⟨lg,hR,tb,b,bf,l40,gok,tk,l8⟩,k,kr⟩
   ·obtain ⟨dx,fs,eL,fd⟩:=cls (lg.up s1)
    refine ⟨fun _=>⟨L,_,dx,fs,_,rfl,eL,.head _,fd.pu,rfl,A,R,es,last,g,nm,⟨lg.up s1,ok,l40,l20,Dj _ _ _ _ (A6 s1) hg,ga,gb,tk.up s1⟩,fun fit r D H2 fr er2 lg2 tk2=>?_,fun nf H2 s2 C hC=>?_⟩,fun h=>nb h⟩
    ·have e2:H2 M=some (.lst []):=(Iz fr (lg.up s1) (tk.up s1)).1 _ _ e1
     refine .inl ⟨_,rfl,e2,fun t H3 s3 e3=>k fit t r D H3 (fun b o n1 n2 n3 e=>s3 b o (fr b o n1 n2 n3 (s1 b o e))) e3 (s3 _ _ er2) (lg2.up s3) (tk2.up s3)⟩
    ·have hC':=Bg hC er.y_NoBook
     subst hC'
     have xg:=er.x_NoBook
     refine ⟨_,rfl,xg,er.km_NoBook_LadderError,fun a H3 s3 e3=>?_⟩
     refine ⟨_,_,e3,xg,er.kk_NoBook_NoBook,_,_,e3,xg,er.kk_NoBook_NoGame,_,_,e3,xg,er.kk_NoBook_NoPlayer,_,_,e3,xg,er.kv_NoBook,by decide,fun m hm=>?_⟩
     have s4:Ai H3 (upd H3 m (.lst [.bl true,.bl false,.bl false,.bl true])):=Al hm
     have e4:upd H3 m (.lst [.bl true,.bl false,.bl false,.bl true]) m=some (.lst [.bl true,.bl false,.bl false,.bl true]):=Ad
     generalize upd H3 m (.lst [.bl true,.bl false,.bl false,.bl true])=H4 at s4 e4
     refine ⟨.inl ⟨rfl,_,A0.of e4⟩,fun t H5 s5 e5=>⟨_,false,[c_NoFit,c_NoNumber,c_NoRow,c_NoTable],(s4.trans s5) _ _ e3,xg,e5,K6 er.kk_NoBook_NoFit (K6 er.kk_NoBook_NoNumber (K6 er.kk_NoBook_NoRow (K6 er.kk_NoBook_NoTable Afl))),m,_,_,rfl,rfl,s5 _ _ e4,by decide,?_⟩⟩
     have s6:Ai H3 (upd H5 m (.lst ([.bl true,.bl false,.bl false,.bl true]++[.bl false]))):=Bs (s4.trans s5) hm
     refine .inr ⟨m,0,rfl,Ad,fun t' H7 s7 e7=>?_⟩
     exact kr nf t' H7 ((s1.trans (s2.trans (s3.trans s6))).trans s7) ⟨m,e7,s7 _ _ Ad⟩
   ·obtain ⟨dx,fs,eL,fd⟩:=cls (lg.up s1)
    refine ⟨fun h=>nb h,fun _=>⟨fun _=>⟨L,_,dx,fs,_,rfl,eL,.head _,fd.ta,rfl,A,R,es,last,⟨lg.up s1,inc,l40,l8,tk.up s1⟩,fun g hn D H2 fr lg2 tk2=>?_,fun no H2 s2 C hC=>?_⟩,fun h=>nb h⟩⟩
    ·have e2:H2 M=some (.lst []):=(Iz fr (lg.up s1) (tk.up s1)).1 _ _ e1
     refine .inl ⟨_,rfl,e2,fun t H3 s3 e3=>k g hn t D H3 (fun b o n1 n2 n3 e=>s3 b o (fr b o n1 n2 n3 (s1 b o e))) e3 (lg2.up s3) (tk2.up s3)⟩
    ·have hC':=Bg hC er.y_NoGame
     subst hC'
     have xg:=er.x_NoGame
     refine ⟨_,rfl,xg,er.km_NoGame_LadderError,fun a H3 s3 e3=>?_⟩
     refine ⟨_,_,e3,xg,er.kk_NoGame_NoBook,_,_,e3,xg,er.kk_NoGame_NoGame,_,_,e3,xg,er.kk_NoGame_NoPlayer,_,_,e3,xg,er.kv_NoGame,by decide,fun m hm=>?_⟩
     have s4:Ai H3 (upd H3 m (.lst [.bl false,.bl true,.bl false,.bl true])):=Al hm
     have e4:upd H3 m (.lst [.bl false,.bl true,.bl false,.bl true]) m=some (.lst [.bl false,.bl true,.bl false,.bl true]):=Ad
     generalize upd H3 m (.lst [.bl false,.bl true,.bl false,.bl true])=H4 at s4 e4
     refine ⟨.inl ⟨rfl,_,A0.of e4⟩,fun t H5 s5 e5=>⟨_,false,[c_NoFit,c_NoNumber,c_NoRow,c_NoTable],(s4.trans s5) _ _ e3,xg,e5,K6 er.kk_NoGame_NoFit (K6 er.kk_NoGame_NoNumber (K6 er.kk_NoGame_NoRow (K6 er.kk_NoGame_NoTable Afl))),m,_,_,rfl,rfl,s5 _ _ e4,by decide,?_⟩⟩
     have s6:Ai H3 (upd H5 m (.lst ([.bl false,.bl true,.bl false,.bl true]++[.bl false]))):=Bs (s4.trans s5) hm
     refine .inr ⟨m,1,rfl,Ad,fun t' H7 s7 e7=>?_⟩
     exact kr no t' H7 ((s1.trans (s2.trans (s3.trans s6))).trans s7) ⟨m,e7,s7 _ _ Ad⟩
   ·obtain ⟨dx,fs,eL,fd⟩:=cls (lg.up s1)
    have so1:Ai (Er (Bi K) H) (Er (Bi K) H1):=Lm (Iu E8 fun b o _ e=>s1 b o e)
    refine ⟨fun h=>nb h,fun _=>⟨fun h=>nb h,fun _=>⟨L,_,dx,fs,_,rfl,eL,.head _,fd.wt,rfl,A,R,es,last,so,st,fi,one,two,rows,⟨lg.up s1,hR.up so1,tb,b,bf,l40,gok,tk.up s1,l8⟩,fun hx q H2 y sm tk2 eq=>?_,fun hx H2 sm tk2 C hC=>?_⟩⟩⟩
    ·have e2:H2 M=some (.lst []):=(Lj sm (tk.up s1)).1 _ _ e1
     refine .inl ⟨_,rfl,e2,fun t H3 s3 e3=>k hx t q y H3 (fun b o n e=>s3 b o (sm b o n (s1 b o e))) (tk2.up s3) e3 (s3 _ _ eq)⟩
    ·have hC':=Bg hC er.y_NoPlayer
     subst hC'
     have xg:=er.x_NoPlayer
     refine ⟨_,rfl,xg,er.km_NoPlayer_LadderError,fun a H3 s3 e3=>?_⟩
     refine ⟨_,_,e3,xg,er.kk_NoPlayer_NoBook,_,_,e3,xg,er.kk_NoPlayer_NoGame,_,_,e3,xg,er.kk_NoPlayer_NoPlayer,_,_,e3,xg,er.kv_NoPlayer,by decide,fun m hm=>?_⟩
     have s4:Ai H3 (upd H3 m (.lst [.bl false,.bl false,.bl true,.bl true])):=Al hm
     have e4:upd H3 m (.lst [.bl false,.bl false,.bl true,.bl true]) m=some (.lst [.bl false,.bl false,.bl true,.bl true]):=Ad
     generalize upd H3 m (.lst [.bl false,.bl false,.bl true,.bl true])=H4 at s4 e4
     refine ⟨.inl ⟨rfl,_,A0.of e4⟩,fun t H5 s5 e5=>⟨_,false,[c_NoFit,c_NoNumber,c_NoRow,c_NoTable],(s4.trans s5) _ _ e3,xg,e5,K6 er.kk_NoPlayer_NoFit (K6 er.kk_NoPlayer_NoNumber (K6 er.kk_NoPlayer_NoRow (K6 er.kk_NoPlayer_NoTable Afl))),m,_,_,rfl,rfl,s5 _ _ e4,by decide,?_⟩⟩
     have s6:Ai H3 (upd H5 m (.lst ([.bl false,.bl false,.bl true,.bl true]++[.bl false]))):=Bs (s4.trans s5) hm
     refine .inr ⟨m,2,rfl,Ad,fun t' H7 s7 e7=>?_⟩
     have s37:=s3.trans (s6.trans s7)
     exact kr hx t' H7 (fun b o n e=>s37 b o (sm b o n (s1 b o e))) (tk2.up s37) ⟨m,e7,s7 _ _ Ad⟩
def abz:Str:=Str.ofString "nopqrstuvwxyzabcdefghijklm"
def lz:List Nat:=[110,111,112,113,114,115,116,117,118,119,120,121,122,97,98,99,100,101,102,103,104,105,106,107,108,109]
def Vc (n:Int):Nat:=lz.getD (n % 26).toNat 0
theorem Vy {n:Int}(h0:0≤n % 26)(h1:n % 26<26):Qt abz.cps.toList (n % 26)=some (Vc n):=by
 have e:abz.cps.toList=lz:=by decide +kernel
 obtain ⟨m,hm⟩:∃m:Nat,n % 26=m:=⟨_,(Int.toNat_of_nonneg h0).symm⟩
 have l:m<lz.length:=by show m<26;omega
 rw [e,hm]
 refine Cn ?_
 unfold Vc
 rw [hm,Int.toNat_natCast,List.getD_eq_getElem?_getD,List.getElem?_eq_getElem l]
 rfl
theorem Yg (n:Int):Vc n<123:=by
 have a:∀m:Nat,m<26→lz.getD m 0<123:=by decide
 have h0:=Int.emod_nonneg n (show (26:Int)≠0 by decide)
 have h1:=Int.emod_lt_of_pos n (show (0:Int)<26 by decide)
 exact a _ (by omega)
theorem Aa1 {m n:Int}(h:Vc m=Vc n):m % 26=n % 26:=by
 have a:∀i:Nat,i<26→∀j:Nat,j<26→lz.getD i 0=lz.getD j 0→i=j:=by decide
 have h0:=Int.emod_nonneg m (show (26:Int)≠0 by decide)
 have h1:=Int.emod_lt_of_pos m (show (0:Int)<26 by decide)
 have h2:=Int.emod_nonneg n (show (26:Int)≠0 by decide)
 have h3:=Int.emod_lt_of_pos n (show (0:Int)<26 by decide)
 have:=a _ (show (m % 26).toNat<26 by omega) _ (show (n % 26).toNat<26 by omega) h
 omega
def Tu (c:Int):List Nat:=(List.range 8).map fun j:Nat=>Vc (c / (3+4*(0+(j:Int))))
theorem Y3 (c:Int):(Tu c).length=8:=rfl
theorem Vh {c:Int}:∀e∈Tu c,e<123:=fun e he=>by
 obtain ⟨j,_,rfl⟩:=List.mem_map.mp he
 exact Yg _
def Ye (c:Int)(at' sz:Nat)(k:Nat):List Nat:=(Tu c).take at'++[Vc (c / 64+5*(k:Int))]++((Tu c).drop (at'+1)).take (sz-(at'+1))
theorem Ac6 {c:Int}{at' sz k:Nat}:∀e∈Ye c at' sz k,e<123:=fun e he=>by
 rcases List.mem_append.mp he with he|he
 ·rcases List.mem_append.mp he with he|he
  ·exact Vh e (List.mem_of_mem_take he)
  ·rw [List.mem_singleton.mp he]
   exact Yg _
 ·exact Vh e (List.mem_of_mem_drop (List.mem_of_mem_take he))
theorem Aaf {c:Int}{at' sz i j:Nat}(hi:i<9)(hj:j<9)(h:Ye c at' sz i=Ye c at' sz j):i=j:=by
 unfold Ye at h
 rw [List.append_assoc,List.append_assoc] at h
 have h:=List.append_cancel_left h
 have h:Vc (c / 64+5*(i:Int))=Vc (c / 64+5*(j:Int)):=by
  have:=congrArg (fun l:List Nat=>l[0]?) h
  simpa using this
 have h:=Aa1 h
 omega
theorem Aed {x:Str}(h:∀e∈co x,e<123):PyData.strOk x=true:=Ah6 fun e he=>Nat.lt_trans (h e he) (by decide)
def Mb (K:PySem.W.Frag)(ns:List Int):Sp:=fun vs H Q _=>match vs with
 |[.int c,.int m]=>(0≤m∧m≤9)∧∀L (nm:List Str) H',Ai H H'→H' L=some (.lst (nm.map V.str))→(nm.length:Int)=m→nm.Nodup→(∀x∈nm,PyData.strOk x=true)→Q (.ref L) H'
 |_=>False
theorem Ce:Ao ["_law_cell_here","_law_many","_law_letters","_law_base","_law_size","_law_at","_law_names_here","_law_k","_law_letter"] ["_law_cell_here","_law_many"] (Ag Ju):=⟨rfl,rfl,rfl,by decide +kernel,rfl,by decide +kernel,by decide +kernel⟩
theorem S9 (d:B0 K mg "_law_names" Ju ["_law_cell_here","_law_many"])(er:Bh K mg c_LadderError c_Ledger c_NoBook c_NoFit c_NoGame c_NoNumber c_NoPlayer c_NoRow c_NoTable c_Rule)(n_range:mg "range"=none)  :Bf P w K mg base "_law_names" ["_law_cell_here","_law_many"] 1 (Mb K ns):=by
 refine d.cal (k:=0) Ce (fun vs H Q E h=>?_) (fun f cdv A outer s H vs Q E hr h=>?_)
 ·match vs,h with
  |[.int c,.int m],_=>rfl
 ·match vs,h with
  | [.int c,.int m],hq0=>
   obtain ⟨⟨m0,m9⟩,q⟩:=hq0
   refine ⟨_,(@Ae _ _ _ _ _ (@Ar _ _ (2) _ _ _ _ Ce.nd rfl (by trivial) C4 (by rfl) (by trivial)) (@Ae _ _ _ _ _ (@Ar _ _ (3) _ _ _ _ Ce.nd rfl (by trivial) (@Ae6 _ _ _ _ _ ("join") _ _ C4 (@Aa _ _ _ _ _ (@Fw _ _ _ _ _ _ _ _ _ _ ["_law_k"] ["_law_letters","_law_cell_here"] [2,0] rfl (@E9 _ _ _ _ _ _ (by rfl) n_range (@Aa _ _ _ _ _ Ab Ac (by rfl)) (by rfl)) (fun C s H fp=>(@Bb _ _ (0) _ (show List.Nodup [("_law_k":Str),("_law_letters":Str),("_law_cell_here":Str)] by decide +kernel) rfl (by trivial) (by trivial))) (fun C s H fp=>(@Am _ _ _ _ _ _ _ Adj (dv 1) (@Aj _ _ _ _ _ _ _ _ Bm (@Aj _ _ _ _ _ _ _ _ Dk (dv 2) (@Aj _ _ _ _ _ _ _ _ Cl Ab (@Aj _ _ _ _ _ _ _ _ Cw Ab (dv 0)))) Ab) (fun _ _=>rfl))) rfl rfl (by decide +kernel) (by decide +kernel) (by rfl) ⟨rfl,⟨rfl,True.intro⟩⟩ ⟨⟨rfl,rfl,rfl,rfl⟩,⟨⟨rfl,rfl,rfl,rfl⟩,True.intro⟩⟩ (by intro _;rfl)) Ac (by rfl)) (by rfl) (by rfl) (by rfl) (by rfl) (by rfl)) (by rfl) (by trivial)) (@Ae _ _ _ _ _ (@Ar _ _ (4) _ _ _ _ Ce.nd rfl (by trivial) (@Aj _ _ _ _ _ _ _ _ Cl Ab (@Aj _ _ _ _ _ _ _ _ Bm (dv 0) Ab)) (by rfl) (by trivial)) (@Dc _ _ _ _ _ (@Ar _ _ (5) _ _ _ _ Ce.nd rfl (by trivial) (@Aj _ _ _ _ _ _ _ _ Bm (@Aj _ _ _ _ _ _ _ _ Dk (dv 0) Ab) (dv 4)) (by rfl) (by trivial)) (@Ae _ _ _ _ _ (@Ar _ _ (6) _ _ _ _ Ce.nd rfl (by trivial) (@Em _ _ _ _ Ac) (by rfl) (by trivial)) (@Ae _ _ _ _ _ (@Gk _ _ _ _ _ _ _ _ PassesOwn.never rfl (@E9 _ _ _ _ _ _ (by rfl) n_range (@Aa _ _ _ _ _ (dv 1) Ac (by rfl)) (by rfl)) (@Bb _ _ (7) _ Ce.nd rfl (by trivial) (by trivial)) (@Ae _ _ _ _ _ (@Ar _ _ (8) _ _ _ _ Ce.nd rfl (by trivial) (@Am _ _ _ _ _ _ _ Adj (dv 2) (@Aj _ _ _ _ _ _ _ _ Bm (@Aj _ _ _ _ _ _ _ _ Cl (@Aj _ _ _ _ _ _ _ _ Dk (dv 0) Ab) (@Aj _ _ _ _ _ _ _ _ Cw Ab (dv 7))) Ab) (fun _ _=>rfl)) (by rfl) (by trivial)) (@Af _ _ _ (@Ci _ _ _ _ (@Kz _ _ _ _ _ _ _ _ _ _ _ _ PySem.F.plainAttrs_list PySem.F.slot_list_append PySem.F.type_list_append D5 (dv 6) (@Aa _ _ _ _ _ (@Aj _ _ _ _ _ _ _ _ Z4 (@Aj _ _ _ _ _ _ _ _ Z4 (@Cg _ _ _ _ _ _ _ _ _ _ Yj (dv 3) Fz (B5 (dv 5))) (dv 8)) (@Cg _ _ _ _ _ _ _ _ _ _ Yj (dv 3) (B5 (Aj Cl (dv 5) Ab)) (B5 (dv 4)))) Ac (by rfl)) (by rfl) (by rfl) (by rfl) (by rfl) (by rfl)) (by rfl)))) (by intro _;rfl)) (@Af _ _ _ (@At _ _ _ _ (dv 6))))))))),?_⟩
   refine ⟨rfl,8,rfl,by decide,by decide,Zc (n:=8) (fun j=>V.str ⟨#[Vc (c / (3+4*(0+(j:Int))))]⟩) (by decide) ?_ ?_⟩
   ·intro i H2 hi s2 P hP
    have e0:=Int.emod_nonneg (c / (3+4*(0+(i:Int)))) (show (26:Int)≠0 by decide)
    have e1:=Int.emod_lt_of_pos (c / (3+4*(0+(i:Int)))) (show (0:Int)<26 by decide)
    have bd:Bd 4000 (3+4*(0+(i:Int))):=Dd (b:=100) (by omega) (by omega) (Ax rfl)
    exact ⟨rfl,.inr (.inl ⟨by decide,by decide⟩),⟨by show 0<3+4*(0+(i:Int));omega,bd⟩,(by show (0:Int)<26;decide),_,by decide +kernel,Vy e0 e1,hP⟩
   intro D H2 s2 e2
   refine ⟨(List.range 8).map fun j:Nat=>⟨#[Vc (c / (3+4*(0+(j:Int))))]⟩,A0.of ?_,Nat.le_of_ble_eq_true rfl,?_⟩
   ·rw [e2,List.map_map]
    rfl
   have hb:co (Txt.join (Str.ofString "") ((List.range 8).map fun j:Nat=>⟨#[Vc (c / (3+4*(0+(j:Int))))]⟩))=Tu c:=by
    rw [Aid,List.map_map]
    rfl
   generalize Txt.join (Str.ofString "") ((List.range 8).map fun j:Nat=>(⟨#[Vc (c / (3+4*(0+(j:Int))))]⟩:Str))=b at hb
   have lb:b.length=8:=by rw [←Lr,hb,Y3]
   have zb:b.length≤sizeLine:=by rw [lb];decide
   have z0:=Int.emod_nonneg c (show (8:Int)≠0 by decide)
   have z1:=Int.emod_lt_of_pos c (show (0:Int)<8 by decide)
   refine ⟨(by show (0:Int)<8;decide),?_⟩
   have y0:=Int.emod_nonneg (c / 8) (show 1+c % 8≠0 by omega)
   have y1:=Int.emod_lt_of_pos (c / 8) (show 0<1+c % 8 by omega)
   refine ⟨fun σ H'=>∃at' sz:Nat,σ=[some (.int c),some (.int m),some (.str abz),some (.str b),some (.int (1+(sz:Int))),some (.int (at':Int)),none,none,none]∧H'=H2∧at'<1+sz∧sz<8,?_,?_⟩
   ·refine ⟨⟨by decide,Ax rfl⟩,by show 0<1+c % 8;omega,(c / 8 % (1+c % 8)).toNat,(c % 8).toNat,?_,rfl,by omega,by omega⟩
    rw [Int.toNat_of_nonneg y0,Int.toNat_of_nonneg z0]
    rfl
   rintro σ H' ⟨at',sz,rfl,rfl,as,s8⟩
   refine ⟨Nat.zero_le _,fun D3 n3=>?_⟩
   refine ⟨m,rfl,by omega,by omega,J8 (lo:=0) (n:=m.toNat) (fun i σ H1=>∃(nm:List Str) (o1 o2:Option V),σ=[some (.int c),some (.int m),some (.str abz),some (.str b),some (.int (1+(sz:Int))),some (.int (at':Int)),some (.ref D3),o1,o2]∧H1=upd H' D3 (.lst (nm.map V.str))∧nm.length=i∧∀(j:Nat) x,nm[j]? =some x→co x=Ye c at' (1+sz) j)
    ⟨[],none,none,rfl,rfl,rfl,fun j x h=>by simp at h⟩ ?_ ?_⟩
   ·rintro i σ H1 hi ⟨nm,o1,o2,rfl,rfl,hl,hall⟩
    have e0:=Int.emod_nonneg (c / 64+5*(0+(i:Int))) (show (26:Int)≠0 by decide)
    have e1:=Int.emod_lt_of_pos (c / 64+5*(0+(i:Int))) (show (0:Int)<26 by decide)
    refine ⟨⟨by decide,Ax rfl⟩,.inr (.inl ⟨by decide,by decide⟩),(by show (0:Int)<26;decide),_,by decide +kernel,Vy e0 e1,?_⟩
    have l1:(Txt.slice b none (some (at':Int))).length≤8:=Nat.le_trans (Txt.slice_le _ _ _) (by omega)
    have l2:(Txt.slice b (some ((at':Int)+1)) (some (1+(sz:Int)))).length≤8:=Nat.le_trans (Txt.slice_le _ _ _) (by omega)
    have big:(8:Nat)+1+8≤sizeLine:=by decide
    have sl1:co (Txt.slice b none (some (at':Int)))=(Tu c).take at':=by
     rw [Aip (by omega),hb]
    have sl2:co (Txt.slice b (some ((at':Int)+1)) (some (1+(sz:Int))))=((Tu c).drop (at'+1)).take (1+sz-(at'+1)):=by
     have:=Ag1 (x:=b) (i:=at'+1) (j:=1+sz) (by omega) (by omega)
     rw [hb] at this
     exact this
    refine ⟨.inl ⟨rfl,_,A0.of Ad⟩,_,rfl,zb,?_⟩
    refine ⟨Nat.le_trans (Nat.add_le_add l1 (Nat.le_refl 1)) (by decide),_,rfl,_,rfl,zb,?_⟩
    refine ⟨?_,?_⟩
    ·rw [Ab7]
     exact Nat.le_trans (Nat.add_le_add (Nat.add_le_add l1 (Nat.le_refl 1)) l2) big
    refine ⟨D3,_,_,rfl,rfl,Ad,?_,nm++[Txt.slice b none (some (at':Int))++⟨#[Vc (c / 64+5*(0+(i:Int)))]⟩++Txt.slice b (some ((at':Int)+1)) (some (1+(sz:Int)))],_,_,rfl,?_,?_,fun j x hx=>?_⟩
    ·rw [List.length_map,hl]
     exact Nat.lt_of_lt_of_le (show i<9 by omega) (by decide)
    ·rw [Vm,List.map_append]
     rfl
    ·rw [List.length_append,hl]
     rfl
    ·by_cases hj:j<nm.length
     ·rw [List.getElem?_append_left hj] at hx
      exact hall j x hx
     ·have ej:j=i:=by
       have:=(List.getElem?_eq_some_iff.mp hx).1
       rw [List.length_append,List.length_singleton] at this
       omega
      subst ej
      rw [List.getElem?_append_right (by omega),hl,Nat.sub_self] at hx
      cases hx
      rw [Mj,Mj,sl1,sl2,Agw,Int.zero_add]
      rfl
   rintro σ H1 ⟨nm,o1,o2,rfl,rfl,hl,hall⟩
   refine q D3 nm _ (s2.trans (Al n3)) Ad (by omega) ?_ fun x hx=>?_
   ·refine List.pairwise_iff_getElem.mpr fun i j hi hj lt z=>?_
    have h1:=hall i _ (List.getElem?_eq_getElem hi)
    have h2:=hall j _ (List.getElem?_eq_getElem hj)
    rw [z,h2] at h1
    have:=Aaf (by omega) (by omega) h1
    omega
   ·obtain ⟨j,hj,rfl⟩:=List.mem_iff_getElem.mp hx
    refine Aed fun e he=>?_
    rw [hall j _ (List.getElem?_eq_getElem hj)] at he
    exact Ac6 e he
structure Alq (nm:List Str):Prop where
 nd:nm.Nodup
 ok:∀x∈nm,PyData.strOk x=true
theorem Zj {n one t:Int}(h:2≤n)(h0:0≤one)(h1:one<n)(t0:0≤t)(t1:t<n-1):0≤(one+1+t) % n∧(one+1+t) % n<n∧(one+1+t) % n≠one:=by
 have a:=Int.emod_nonneg (one+1+t) (show n≠0 by omega)
 have b:=Int.emod_lt_of_pos (one+1+t) (show 0<n by omega)
 refine ⟨a,b,fun c=>?_⟩
 by_cases d:one+1+t<n
 ·rw [Int.emod_eq_of_lt (by omega) d] at c
  omega
 ·have e:(one+1+t) % n=one+1+t-n:=by
   rw [←Int.sub_emod_right]
   exact Int.emod_eq_of_lt (by omega) (by omega)
  omega
def N7 (K:PySem.W.Frag)(ns:List Int):Sp:=fun vs H Q _=>match vs with
 |[.int c,.ref L]=>∃nm:List Str,(H L=some (.lst (nm.map V.str))∧2≤nm.length∧nm.length≤9∧nm.Nodup)∧∀v g H',Ai H H'→Ck H' v g→g.a∈nm→g.b∈nm→g.a≠g.b→0≤g.h→g.h≤2→Q v H'
 |_=>False
theorem Ki:Ao ["_law_cell_here","_law_names_here","_law_one","_law_other"] ["_law_cell_here","_law_names_here"] (Ag M6):=⟨rfl,rfl,rfl,by decide +kernel,rfl,by decide +kernel,by decide +kernel⟩
theorem Xh (d:B0 K mg "_law_game" M6 ["_law_cell_here","_law_names_here"])(er:Bh K mg c_LadderError c_Ledger c_NoBook c_NoFit c_NoGame c_NoNumber c_NoPlayer c_NoRow c_NoTable c_Rule)(n_len:mg "len"=none)  :Bf P w K mg base "_law_game" ["_law_cell_here","_law_names_here"] 1 (N7 K ns):=by
 refine d.cal (k:=0) Ki (fun vs H Q E h=>?_) (fun f cdv A outer s H vs Q E hr h=>?_)
 ·match vs,h with
  |[.int c,.ref L],_=>rfl
 ·match vs,h with
  | [.int c,.ref L],hq0=>
   obtain ⟨nm,⟨hL,l2,l8,nd⟩,k⟩:=hq0
   refine ⟨_,(@Dc _ _ _ _ _ (@Ar _ _ (2) _ _ _ _ Ki.nd rfl (by trivial) (@Aj _ _ _ _ _ _ _ _ Bm (dv 0) (@Aq _ _ _ _ _ _ _ _ _ Cm (by rfl) n_len (by decide +kernel) (@Aa _ _ _ _ _ (dv 1) Ac (by rfl)) (by decide) (by decide) (by rfl) (by rfl))) (by rfl) (by trivial)) (@Dc _ _ _ _ _ (@Ar _ _ (3) _ _ _ _ Ki.nd rfl (by trivial) (@Aj _ _ _ _ _ _ _ _ Bm (@Aj _ _ _ _ _ _ _ _ Cl (@Aj _ _ _ _ _ _ _ _ Cl (dv 2) Ab) (@Aj _ _ _ _ _ _ _ _ Bm (@Aj _ _ _ _ _ _ _ _ Dk (dv 0) Ab) (@Aj _ _ _ _ _ _ _ _ M7 (@Aq _ _ _ _ _ _ _ _ _ Cm (by rfl) n_len (by decide +kernel) (@Aa _ _ _ _ _ (dv 1) Ac (by rfl)) (by decide) (by decide) (by rfl) (by rfl)) Ab))) (@Aq _ _ _ _ _ _ _ _ _ Cm (by rfl) n_len (by decide +kernel) (@Aa _ _ _ _ _ (dv 1) Ac (by rfl)) (by decide) (by decide) (by rfl) (by rfl))) (by rfl) (by trivial)) (@Af _ _ _ (@At _ _ _ _ (@Cj _ _ _ _ _ (@Aa _ _ _ _ _ (@Aj _ _ _ _ _ _ _ _ Bm (@Aj _ _ _ _ _ _ _ _ Dk (dv 0) Ab) Ab) (@Aa _ _ _ _ _ (@Am _ _ _ _ _ _ _ Cc (dv 1) (dv 2) (fun _ _=>rfl)) (@Aa _ _ _ _ _ (@Am _ _ _ _ _ _ _ Cc (dv 1) (dv 3) (fun _ _=>rfl)) (@Aa _ _ _ _ _ (@Aj _ _ _ _ _ _ _ _ Bm (@Aj _ _ _ _ _ _ _ _ Dk (dv 0) Ab) Ab) (@Aa _ _ _ _ _ (@Aj _ _ _ _ _ _ _ _ M7 (@Aj _ _ _ _ _ _ _ _ Bm (@Aj _ _ _ _ _ _ _ _ Dk (dv 0) Ab) Ab) Ab) Ac (by rfl)) (by rfl)) (by rfl)) (by rfl)) (by rfl))))))),?_⟩
   have le:((nm.map V.str).length:Int)=nm.length:=by rw [List.length_map]
   refine ⟨fun σ H'=>∃i:Nat,σ=[some (.int c),some (.ref L),some (.int (i:Int)),none]∧H'=H∧i<nm.length,?_,?_⟩
   ·have z0:=Int.emod_nonneg c (show (nm.length:Int)≠0 by omega)
    have z1:=Int.emod_lt_of_pos c (show 0<(nm.length:Int) by omega)
    refine ⟨_,.inl (A0.of hL),?_⟩
    rw [le]
    refine ⟨by omega,(c % (nm.length:Int)).toNat,?_,rfl,by omega⟩
    rw [Int.toNat_of_nonneg z0]
    rfl
   rintro σ H' ⟨i,rfl,rfl,il⟩
   refine ⟨fun σ H1=>∃j:Nat,σ=[some (.int c),some (.ref L),some (.int (i:Int)),some (.int (j:Int))]∧H1=H'∧j<nm.length∧j≠i,?_,?_⟩
   ·have z0:=Int.emod_nonneg (c / 8) (show (nm.length:Int)-1≠0 by omega)
    have z1:=Int.emod_lt_of_pos (c / 8) (show 0<(nm.length:Int)-1 by omega)
    obtain ⟨y0,y1,y2⟩:=Zj (n:=nm.length) (one:=i) (by omega) (by omega) (by omega) z0 z1
    refine ⟨⟨by decide,Ax rfl⟩,_,.inl (A0.of hL),?_⟩
    rw [le]
    refine ⟨by show 0<(nm.length:Int)-1;omega,_,.inl (A0.of hL),?_⟩
    rw [le]
    refine ⟨by omega,(((i:Int)+1+c / 8 % ((nm.length:Int)-1)) % (nm.length:Int)).toNat,?_,rfl,by omega,by omega⟩
    rw [Int.toNat_of_nonneg y0]
    rfl
   rintro σ H1 ⟨j,rfl,rfl,jl,ne⟩
   have w0:=Int.emod_nonneg (c / 7) (show (3:Int)≠0 by decide)
   have w1:=Int.emod_lt_of_pos (c / 7) (show (0:Int)<3 by decide)
   have at':∀{m:Nat} (h:m<nm.length),Qt (nm.map V.str) (m:Int)=some (.str nm[m]):=fun h=>by
    refine Cn ?_
    rw [List.getElem?_map,List.getElem?_eq_getElem h]
    rfl
   refine ⟨⟨by decide,Ax rfl⟩,(by show (0:Int)<10000;decide),_,_,A0.of hL,at' il,_,_,A0.of hL,at' jl,⟨by decide,Ax rfl⟩,(by show (0:Int)<3;decide),⟨by decide,Ax rfl⟩,(by show (0:Int)<3;decide),fun T H2 s2 e2=>?_⟩
   refine k (.ref T) ⟨c / 72 % 10000,nm[i],nm[j],c / 7 % 3,c / 5 % 3-1⟩ H2 s2 ⟨T,rfl,e2⟩ (List.getElem_mem il) (List.getElem_mem jl) (fun z=>ne ?_) w0 (by show c / 7 % 3≤2;omega)
   exact ((List.getElem_inj nd).mp z).symm
def Cu (K:PySem.W.Frag)(ns:List Int):Sp:=fun vs H Q _=>match vs with
 |[.int i]=>∃n:Nat,(i=(n:Int))∧∀t H',Ai H H'→Py H' t n→Q (.ref t) H'
 |_=>False
theorem Pd:Ao ["_law_at"] ["_law_at"] (Ag Ga):=⟨rfl,rfl,rfl,by decide +kernel,rfl,by decide +kernel,by decide +kernel⟩
theorem Pg (d:B0 K mg "_law_refusal" Ga ["_law_at"])(er:Bh K mg c_LadderError c_Ledger c_NoBook c_NoFit c_NoGame c_NoNumber c_NoPlayer c_NoRow c_NoTable c_Rule)   :Bf P w K mg base "_law_refusal" ["_law_at"] 1 (Cu K ns):=by
 refine d.cal (k:=0) Pd (fun vs H Q E h=>?_) (fun f cdv A outer s H vs Q E hr h=>?_)
 ·match vs,h with
  |[.int i],_=>rfl
 ·match vs,h with
  | [.int i],hq0=>
   obtain ⟨n,rfl,k⟩:=hq0
   refine ⟨_,(@Af _ _ _ (@At _ _ _ _ (@Cj _ _ _ _ _ (@Aa _ _ _ _ _ C4 (@Aa _ _ _ _ _ (@Em _ _ _ _ (@Aa _ _ _ _ _ (@Bo _ _ _ _ _ _ _ _ G4 (dv 0) Ab (@A1 _ _ (by decide) (by decide))) (@Aa _ _ _ _ _ (@Bo _ _ _ _ _ _ _ _ G4 (dv 0) Ab (@A1 _ _ (by decide) (by decide))) (@Aa _ _ _ _ _ (@Bo _ _ _ _ _ _ _ _ G4 (dv 0) Ab (@A1 _ _ (by decide) (by decide))) (@Aa _ _ _ _ _ Gx (@Aa _ _ _ _ _ Gx Ac (by rfl)) (by rfl)) (by rfl)) (by rfl)) (by rfl))) Ac (by rfl)) (by rfl))))),?_⟩
   refine ⟨(by show 5≤sizeLine;decide),fun m hm=>?_⟩
   have s1:=Al (o:=.lst [.bl (decide ((n:Int)=0)),.bl (decide ((n:Int)=1)),.bl (decide ((n:Int)=2)),.bl true,.bl false]) hm
   refine fun t H2 s2 e2=>k t H2 (s1.trans s2) ⟨m,e2,?_⟩
   have e:([.bl (decide ((n:Int)=0)),.bl (decide ((n:Int)=1)),.bl (decide ((n:Int)=2)),.bl true,.bl false]:List V)=RfL n:=by
    have h:∀j:Nat,decide ((n:Int)=(j:Int))=(n==j):=fun j=>by
     rw [Bool.eq_iff_iff,decide_eq_true_eq,beq_iff_eq]
     omega
    have h0:=h 0
    have h1:=h 1
    have h2:=h 2
    unfold RfL
    rw [←h0,←h1,←h2]
    rfl
   rw [←e]
   exact s2 _ _ Ad
theorem Km {K:PySem.W.Frag}{H:Hp}{t:Addr}{i:Nat}(h:Py H t i):Rp K H (.ref t) (.tuple [.str "refused",.list [.bool (i==0),.bool (i==1),.bool (i==2),.bool true,.bool false]]):=by
 obtain ⟨m,h0,h1⟩:=h
 exact .tup (Ed.of h0) (.cons (.str _) (.cons (.lst (A0.of h1) (.cons (.bl _) (.cons (.bl _) (.cons (.bl _) (.cons (.bl _) (.cons (.bl _) .nil)))))) .nil))
theorem F6:∀i:Nat,i<3→SeqAt.shaped (.tuple [.str "refused",.list [.bool (i==0),.bool (i==1),.bool (i==2),.bool true,.bool false]])=true
 |0,_=>by decide +kernel
 |1,_=>by decide +kernel
 |2,_=>by decide +kernel
theorem Py.up {H H':Hp}{t:Addr}{i:Nat}(s:Ai H H')(h:Py H t i):Py H' t i:=by
 obtain ⟨m,h0,h1⟩:=h
 exact ⟨m,s _ _ h0,s _ _ h1⟩
def Aj1 (H:Hp)(D:Addr)(l:List Str):Prop:=∃kvs,H D=some (.dK kvs)∧kvs.map (·.1)=l.map Sum.inr∧l.Nodup
theorem Aab:∀{kvs:List (Bl×V)} {l:List Str},kvs.map (·.1)=l.map Sum.inr→∀x:Str,(B1 kvs (Sum.inr x)).isSome=decide (x∈l)
 |[],[],_,x=>rfl
 | kv::kvs,y::l,h,x=>by
  obtain ⟨h1,h2⟩:=List.cons.inj h
  have h1:kv.1=Sum.inr y:=h1
  by_cases c:y=x
  ·subst c
   rw [Bn h1,decide_eq_true List.mem_cons_self]
   rfl
  ·rw [Bj (by rw [h1];exact fun z=>c (Sum.inr.inj z)),Aab h2 x]
   refine decide_eq_decide.mpr ?_
   rw [List.mem_cons]
   exact ⟨.inr,fun z=>z.elim (fun z=>absurd z.symm c) id⟩
def Ib (K:PySem.W.Frag)(ns:List Int):Sp:=fun vs H Q _=>match vs with
 |[.ref KL]=>∃(es:List En) (kv:List V),(A0 K H KL kv∧Aw (Xe H) kv es∧es.length≤41)∧∀D l H',Ai H H'→Aj1 H' D l→(∀x,x∈l↔x∈C7 (es.map (·.2)))→Q (.ref D) H'
 |_=>False
theorem Fm:Ao ["_law_kept","_law_there_here","_law_number","_law_played"] ["_law_kept"] (Ag Jp):=⟨rfl,rfl,rfl,by decide +kernel,rfl,by decide +kernel,by decide +kernel⟩
theorem Uq (d:B0 K mg "_law_there" Jp ["_law_kept"])(er:Bh K mg c_LadderError c_Ledger c_NoBook c_NoFit c_NoGame c_NoNumber c_NoPlayer c_NoRow c_NoTable c_Rule)   :Bf P w K mg base "_law_there" ["_law_kept"] 1 (Ib K ns):=by
 refine d.cal (k:=0) Fm (fun vs H Q E h=>?_) (fun f cdv A outer s H vs Q E hr h=>?_)
 ·match vs,h with
  |[.ref KL],_=>rfl
 ·match vs,h with
  | [.ref KL],hq0=>
   obtain ⟨es,kv,⟨hK,aK,l41⟩,k⟩:=hq0
   refine ⟨_,(@Ae _ _ _ _ _ (@Ar _ _ (1) _ _ _ _ Fm.nd rfl (by trivial) Gw (by rfl) (by trivial)) (@Ae _ _ _ _ _ (@Gk _ _ _ _ _ _ _ _ PassesOwn.never rfl (@Db _ _ _ _ (dv 0)) (@T8 _ _ _ _ _ _ rfl (@Fa _ _ _ _ _ (@Bb _ _ (2) _ Fm.nd rfl (by trivial) (by trivial)) (@Fa _ _ _ _ _ (@Bb _ _ (3) _ Fm.nd rfl (by trivial) (by trivial)) Pm (by rfl)) (by rfl)) (by rfl) (by rfl)) (@Ae _ _ _ _ _ (@Hb _ _ _ _ _ _ _ _ _ (@u1 _ _ hr.units) (dv 1) (@Am _ _ _ _ _ _ _ Au (dv 3) Ab (fun _ _=>rfl)) Gx rfl) (@Af _ _ _ (@Hb _ _ _ _ _ _ _ _ _ (@u1 _ _ hr.units) (dv 1) (@Am _ _ _ _ _ _ _ Au (dv 3) Ab (fun _ _=>rfl)) Gx rfl))) (by intro _;rfl)) (@Af _ _ _ (@At _ _ _ _ (dv 1))))),?_⟩
   have lk:=aK.len
   refine fun D hD=>?_
   have s1:Ai H (upd H D (.dK [])):=Al hD
   have e1:upd H D (.dK []) D=some (.dK []):=Ad
   generalize upd H D (.dK [])=H1 at s1 e1
   refine ⟨KL,rfl,⟨_,s1.seq hK⟩,Il (K:=K) (a:=KL) (xs:=kv) (fun i σ H'=>∃(l:List Str) (kvs:List (Bl×V)) (o2 o3:Option V),σ=[some (.ref KL),some (.ref D),o2,o3]∧Ai H H'∧H' D=some (.dK kvs)∧kvs.map (·.1)=l.map Sum.inr∧l.Nodup∧kvs.length≤2*i∧∀x,x∈l↔x∈C7 ((es.take i).map (·.2))) ⟨[],[],none,none,rfl,s1,e1,rfl,.nil,Nat.zero_le _,fun x=>⟨fun h=>(by cases h),fun h=>by
    obtain ⟨g,hg,_⟩:=B4.mp h
    cases hg⟩⟩ (fun i σ H' _ ⟨_,_,_,_,_,s,_⟩=>s.seq hK) ?_ ?_⟩
   ·rintro i v σ H4 hv ⟨l,kvs,o2,o3,rfl,s4,e4,ek,nd,lkv,ml⟩
    obtain ⟨e,he,t,p,rfl,ht,hp⟩:=aK.get hv
    have il:=(List.getElem?_eq_some_iff.mp hv).1
    have l1:=By kvs (Sum.inr e.2.a) (.bl true)
    have l2:=By (Cb kvs (Sum.inr e.2.a) (.bl true)) (Sum.inr e.2.b) (.bl true)
    have e5:upd H4 D (.dK (Cb kvs (Sum.inr e.2.a) (.bl true))) D=some (.dK (Cb kvs (Sum.inr e.2.a) (.bl true))):=Ad
    have x5:Sx D H4 (upd H4 D (.dK (Cb kvs (Sum.inr e.2.a) (.bl true)))):=Sx.upd
    have hp4:=s4 _ _ hp
    refine ⟨t,_,rfl,Ed.of (s4 _ _ ht),rfl,_,_,rfl,_,_,rfl,rfl,_,hp4,D,_,rfl,Nk.k (k:=Sum.inr e.2.a) e4 (Nat.lt_of_le_of_lt (show _≤1000 by omega) (by decide)),_,x5.kt' e4 _ _ hp4,D,_,rfl,Nk.k (k:=Sum.inr e.2.b) e5 (Nat.lt_of_le_of_lt (show _≤1000 by omega) (by decide)),dd (dd l e.2.a) e.2.b,_,_,_,rfl,Bs (Bs s4 hD) hD,Ad,Jf (Jf ek _ _) _ _,G2 (G2 nd),by omega,fun x=>?_⟩
    rw [Lp,Lp,ml,List.take_add_one,he]
    show _↔x∈C7 ((es.take i++[e]).map (·.2))
    rw [List.map_append,B4,B4]
    constructor
    ·rintro ((⟨g,hg,c⟩|c)|c)
     ·exact ⟨g,List.mem_append_left _ hg,c⟩
     ·exact ⟨e.2,List.mem_append_right _ (List.mem_singleton.mpr rfl),.inl c⟩
     ·exact ⟨e.2,List.mem_append_right _ (List.mem_singleton.mpr rfl),.inr c⟩
    ·rintro ⟨g,hg,c⟩
     rcases List.mem_append.mp hg with hg|hg
     ·exact .inl (.inl ⟨g,hg,c⟩)
     ·rw [List.mem_singleton.mp hg] at c
      exact c.elim (fun c=>.inl (.inr c)) .inr
   ·rintro σ H4 ⟨l,kvs,o2,o3,rfl,s4,e4,ek,nd,_,ml⟩
    rw [lk,List.take_length] at ml
    exact k D l H4 s4 ⟨kvs,e4,ek,nd⟩ ml
structure Jl (K:PySem.W.Frag)(N H:Hp)(L A R KL S:Addr)(nm:List Str)(es:List En)(last:Int)(kv:List V):Prop where
 sm:Ai N H
 tk:Ay H (Bi K) Bv Fl
 lg:Do K H L A R es last
 ok:Aau nm es last
 le:es.length≤40
 pl:(C7 (es.map (·.2))).length≤8
 gk:GOk es
 ek:H KL=some (.lst kv)
 ak:Aw (Xe H) kv es
 es:H S=some (.lst [.int last])
structure Non (K:PySem.W.Frag)(N:Hp)(L A KL S:Addr):Prop where
 l:N L=none
 a:N A=none
 t:N (Bi K)=none
 k:N KL=none
 s:N S=none
 ne:KL≠S
theorem Jl.up {K:PySem.W.Frag}{N H H':Hp}{L A R KL S:Addr}{nm:List Str}{es:List En}{last:Int}{kv:List V}(h:Jl K N H L A R KL S nm es last kv)(s:Rh (Bi K) H H')(tk:Ay H' (Bi K) Bv Fl)(n:N (Bi K)=none):Jl K N H' L A R KL S nm es last kv:=by
 obtain ⟨kl,kt⟩:=Lj s h.tk
 exact ⟨Ahm h.sm s n,tk,h.lg.smt s h.tk,h.ok,h.le,h.pl,h.gk,kl _ _ h.ek,h.ak.imp fun v e r=>He v e _ _ kt r,kl _ _ h.es⟩
theorem Jl.same {K:PySem.W.Frag}{N H H':Hp}{L A R KL S:Addr}{nm:List Str}{es:List En}{last:Int}{kv:List V}(h:Jl K N H L A R KL S nm es last kv)(s:Ai H H'):Jl K N H' L A R KL S nm es last kv:=⟨h.sm.trans s,h.tk.up s,h.lg.up s,h.ok,h.le,h.pl,h.gk,s _ _ h.ek,h.ak.imp fun v e r=>He v e _ _ (A6 s) r,s _ _ h.es⟩
theorem Sa {l m:List Str}(h1:l.Nodup)(h2:m.Nodup)(h:∀x,x∈l↔x∈m):l.length=m.length:=((List.perm_ext_iff_of_nodup h1 h2).mpr h).length_eq
def Qx (K:PySem.W.Frag)(ns:List Int):Sp:=fun vs H Q _=>match vs with
 |[.ref L,.ref KL,.ref S,v]=>∃(N:Hp) (A R:Addr) (nm:List Str) (es:List En) (last:Int) (kv:List V) (g:Gm),(Jl K N H L A R KL S nm es last kv∧Non K N L A KL S∧nm.length≤9∧Ck H v g∧g.a∈nm∧g.b∈nm∧g.a≠g.b∧0≤g.h∧g.h≤2) ∧
  ∀H' es' last' kv',Jl K N H' L A R KL S nm es' last' kv'→last≤last'∧es.length≤es'.length→(es'.length=es.length→es'=es∧last'=last)→Q (.bl true) H'
 |_=>False
theorem L5:Ao ["_law_ledger","_law_kept","_law_state","_law_played","_law_found","_law_many"] ["_law_ledger","_law_kept","_law_state","_law_played"] (Ag O1):=⟨rfl,rfl,rfl,by decide +kernel,rfl,by decide +kernel,by decide +kernel⟩
theorem Z0 (d:B0 K mg "_law_put" O1 ["_law_ledger","_law_kept","_law_state","_law_played"])(er:Bh K mg c_LadderError c_Ledger c_NoBook c_NoFit c_NoGame c_NoNumber c_NoPlayer c_NoRow c_NoTable c_Rule)(n_len:mg "len"=none)  (c_l_refusal:Bf P w K mg base "_law_refusal" ["_law_at"] 1 (Cu K ns))(c_l_there:Bf P w K mg base "_law_there" ["_law_kept"] 1 (Ib K ns))(c_l_asked:Bf P w K mg base "_law_asked" ["_law_ledger","_law_word","_law_thing"] 13 (Ee K ns)):Bf P w K mg base "_law_put" ["_law_ledger","_law_kept","_law_state","_law_played"] 14 (Qx K ns):=by
 refine d.cal (k:=13) L5 (fun vs H Q E h=>?_) (fun f cdv A outer s H vs Q E hr h=>?_)
 ·match vs,h with
  |[.ref L,.ref KL,.ref S,v],_=>rfl
 ·match vs,h with
  | [.ref L,.ref KL,.ref S,v],hq0=>
   obtain ⟨N,A,R,nm,es,last,kv,g,⟨st,no,n9,hg,ga,gb,ne,h0,h2⟩,k⟩:=hq0
   refine ⟨_,(@Ae _ _ _ _ _ (@Ar _ _ (4) _ _ _ _ L5.nd rfl (by trivial) (@An _ _ _ _ _ _ _ _ _ _ _ c_l_asked hr (by decide) (by rfl) (@Aa _ _ _ _ _ (dv 0) (@Aa _ _ _ _ _ C4 (@Aa _ _ _ _ _ (dv 3) Ac (by rfl)) (by rfl)) (by rfl)) (by decide) (by rfl) (by rfl)) (by rfl) (by trivial)) (@Ae _ _ _ _ _ (@Ar _ _ (5) _ _ _ _ L5.nd rfl (by trivial) (@Aq _ _ _ _ _ _ _ _ _ W8 (by rfl) n_len (by decide +kernel) (@Aa _ _ _ _ _ (@An _ _ _ _ _ _ _ _ _ _ _ c_l_there hr (by decide) (by rfl) (@Aa _ _ _ _ _ (@Aj _ _ _ _ _ _ _ _ Mw (dv 1) (@F5 _ _ _ _ (@Aa _ _ _ _ _ (@Cj _ _ _ _ _ (@Aa _ _ _ _ _ Ab (@Aa _ _ _ _ _ (dv 3) Ac (by rfl)) (by rfl))) Ac (by rfl)))) Ac (by rfl)) (by decide) (by rfl) (by rfl)) Ac (by rfl)) (by decide) (by decide) (by rfl) (by rfl)) (by rfl) (by trivial)) (@Ae _ _ _ _ _ (@Ct _ _ _ _ _ _ _ _ (@L2.PW.pt _ _ _ (@Wg _ _ _ _ _ _ _ (@Bw _ _ _ _ _ _ _ _ G4 (@Aq _ _ _ _ _ _ _ _ _ Cm (by rfl) n_len (by decide +kernel) (@Aa _ _ _ _ _ (dv 1) Ac (by rfl)) (by decide) (by decide) (by rfl) (by rfl)) Ab (@A1 _ _ (by decide) (by decide))) (@Ls _ _ _ _ (@Bw _ _ _ _ _ _ _ _ Abv (dv 5) Ab (@A1 _ _ (by decide) (by decide)))))) (@Af _ _ _ (@At _ _ _ _ (@Bo _ _ _ _ _ _ _ _ (@Iv _ hr.units) (dv 4) (@An _ _ _ _ _ _ _ _ _ _ _ c_l_refusal hr (by decide) (by rfl) (@Aa _ _ _ _ _ Ab Ac (by rfl)) (by decide) (by rfl) (by rfl)) (@A1 _ _ (by decide) (by decide))))) A5) (@Ae _ _ _ _ _ (@Af4 _ _ _ _ _ _ (@Aj _ _ _ _ _ _ _ _ Cl (@Am _ _ _ _ _ _ _ Cc (dv 2) Ab (fun _ _=>rfl)) Ab) (@Ad0 _ _ _ _ _ _ _ (dv 2) Ab Yo (by intro _;rfl)) (by rfl) (by rfl) (by rfl)) (@Ae _ _ _ _ _ (@Ci _ _ _ _ (@Kz _ _ _ _ _ _ _ _ _ _ _ _ PySem.F.plainAttrs_list PySem.F.slot_list_append PySem.F.type_list_append D5 (dv 1) (@Aa _ _ _ _ _ (@Cj _ _ _ _ _ (@Aa _ _ _ _ _ (@Am _ _ _ _ _ _ _ Cc (dv 2) Ab (fun _ _=>rfl)) (@Aa _ _ _ _ _ (dv 3) Ac (by rfl)) (by rfl))) Ac (by rfl)) (by rfl) (by rfl) (by rfl) (by rfl) (by rfl)) (by rfl)) (@Af _ _ _ (@At _ _ _ _ (@Kx _ _ _ _ _ _ _ (@Bo _ _ _ _ _ _ _ _ G4 (@Am _ _ _ _ _ _ _ Au (dv 4) Ab (fun _ _=>rfl)) C4 (@A1 _ _ (by decide) (by decide))) (@Ia _ _ _ _ _ (@Bo _ _ _ _ _ _ _ _ G4 (@Am _ _ _ _ _ _ _ Au (@Am _ _ _ _ _ _ _ Au (dv 4) Ab (fun _ _=>rfl)) Ab (fun _ _=>rfl)) (@Am _ _ _ _ _ _ _ Cc (dv 2) Ab (fun _ _=>rfl)) (@A1 _ _ (by decide) (by decide)))))))))))),?_⟩
   obtain ⟨pv,rfl,hpv⟩:=id hg
   have lk:=st.ak.len
   have le:=st.le
   have mg:(es++[((0:Int),g)]).map (·.2)=es.map (·.2)++[g]:=by rw [List.map_append];rfl
   have ndP:∀l:List Gm,(C7 l).Nodup:=fun l=>D6 (Ch _)
   have kL:(kv.length:Int)=es.length:=by rw [lk]
   by_cases fit:Aei es g
   ·refine .inl ⟨rfl,A,R,es,last,g,nm,⟨st.lg,st.ok,le,by omega,hg,ga,gb,st.tk⟩,fun _ t r D H1 fr et er1 lg1 tk1=>?_,fun nf=>absurd fit nf⟩
    obtain ⟨kl,kt⟩:=Iz fr st.lg st.tk
    have sN1:=Zu fr st.sm no.l no.a no.t
    have ek1:=kl _ _ st.ek
    have ak1:=st.ak.imp fun v e r=>He v e _ _ kt r
    have es1:=kl _ _ st.es
    have hp1:=kt _ _ hpv
    refine fun T0 H2 s2 e2=>fun L0 H3 s3 e3=>⟨_,_,(s2.trans s3) _ _ ek1,e3,(by show kv.length+1≤1000;omega),fun P H4 s4 e4=>?_⟩
    have s14:=s2.trans (s3.trans s4)
    refine ⟨es++[(0,g)],_,⟨A0.of e4,(ak1.imp fun v e r=>He v e _ _ (A6 s14) r).snoc ⟨T0,pv,rfl,(s3.trans s4) _ _ e2,s14 _ _ hp1⟩,by rw [List.length_append];show es.length+1≤41;omega⟩,fun D2 l H5 s5 th ml=>?_⟩
    rw [mg] at ml
    obtain ⟨kvs,eD,ekv,ndl⟩:=th
    have ll:kvs.length=(C7 (es.map (·.2)++[g])).length:=by
     have:=congrArg List.length ekv
     rw [List.length_map,List.length_map] at this
     rw [this]
     exact Sa ndl (ndP _) ml
    have s15:=s14.trans s5
    have ek5:=s15 _ _ ek1
    refine ⟨D2,kvs,rfl,eD,_,.inl (A0.of ek5),⟨fun h=>?_,fun _=>⟨fun h=>?_,fun _=>?_⟩⟩⟩
    ·have h:((kv.length:Nat):Int)=40:=of_decide_eq_true h
     have:=fit.1
     omega
    ·have h:((kvs.length:Nat):Int)>8:=of_decide_eq_true h
     have:=fit.2
     omega
    have es5:=s15 _ _ es1
    refine ⟨_,.int last,A0.of es5,rfl,S,_,0,0,rfl,rfl,es5,rfl,?_⟩
    have x6:Sx S H5 (upd H5 S (.lst [.int (last+1)])):=Sx.upd
    have es6:upd H5 S (.lst [.int (last+1)]) S=some (.lst [.int (last+1)]):=Ad
    have kt6:Kt H5 (upd H5 S (.lst [.int (last+1)])):=E6 es5
    have lg6:=(lg1.up s15).sxl (o:=.lst [.int (last+1)]) es5
    have tk6:=Ej (tk1.up s15) x6 (.inl ⟨_,es5⟩)
    have sN6:=x6.n (sN1.trans s15) no.s
    have ek6:=x6 _ _ no.ne ek5
    have kt16:=(A6 s15).trans kt6
    refine ⟨.inl ⟨rfl,_,A0.of ek6⟩,_,.int (last+1),A0.of es6,rfl,fun T7 H7 s7 e7=>?_⟩
    have ek7:=s7 _ _ ek6
    refine ⟨KL,kv,_,rfl,rfl,ek7,Nat.lt_of_le_of_lt (show kv.length≤100 by omega) (by decide),?_⟩
    have x8:Sx KL H7 (upd H7 KL (.lst (kv++[.ref T7]))):=Sx.upd
    have kt8:Kt H7 (upd H7 KL (.lst (kv++[.ref T7]))):=E6 ek7
    have kt18:=kt16.trans ((A6 s7).trans kt8)
    have st8:Jl K N (upd H7 KL (.lst (kv++[.ref T7]))) L A R KL S nm (es++[(last+1,g)]) (last+1) (kv++[.ref T7]):=⟨x8.n (sN6.trans s7) no.k,Ej (tk6.up s7) x8 (.inl ⟨_,ek7⟩),(lg6.up s7).sxl ek7,Aa8 st.ok ga gb,by have:=fit.1;rw [List.length_append];show es.length+1≤40;omega,by rw [List.map_append];exact fit.2,fun e he=>?_,Ad,(ak1.imp fun v e r=>He v e _ _ kt18 r).snoc ⟨T7,pv,rfl,kt8 _ _ e7,kt18 _ _ hp1⟩,x8 _ _ (Ne.symm no.ne) (s7 _ _ es6)⟩
    rotate_left
    ·rcases List.mem_append.mp he with h|h
     ·exact st.gk e h
     ·rw [List.mem_singleton.mp h]
      exact ⟨⟨h0,h2⟩,ne⟩
    refine ⟨_,kt18 _ _ et,?_⟩
    refine ⟨fun _=>⟨_,kt18 _ _ et,_,kt18 _ _ er1,_,.int (last+1),A0.of st8.es,rfl,?_⟩,fun h=>nb h⟩
    show Q (.bl (decide (last+1=last+1))) _
    rw [decide_eq_true rfl]
    exact k _ _ _ _ st8 ⟨by omega,by rw [List.length_append];omega⟩ fun h=>by
     rw [List.length_append,List.length_singleton] at h
     omega
   ·refine .inl ⟨rfl,A,R,es,last,g,nm,⟨st.lg,st.ok,le,by omega,hg,ga,gb,st.tk⟩,fun z=>absurd z fit,fun _ t H1 s1 rf=>?_⟩
    have st1:=st.same s1
    have hp1:=s1 _ _ hpv
    refine fun T0 H2 s2 e2=>fun L0 H3 s3 e3=>⟨_,_,(s2.trans s3) _ _ st1.ek,e3,(by show kv.length+1≤1000;omega),fun P H4 s4 e4=>?_⟩
    have s14:=s2.trans (s3.trans s4)
    refine ⟨es++[(0,g)],_,⟨A0.of e4,(st1.ak.imp fun v e r=>He v e _ _ (A6 s14) r).snoc ⟨T0,pv,rfl,(s3.trans s4) _ _ e2,s14 _ _ hp1⟩,by rw [List.length_append];show es.length+1≤41;omega⟩,fun D2 l H5 s5 th ml=>?_⟩
    rw [mg] at ml
    obtain ⟨kvs,eD,ekv,ndl⟩:=th
    have ll:kvs.length=(C7 (es.map (·.2)++[g])).length:=by
     have:=congrArg List.length ekv
     rw [List.length_map,List.length_map] at this
     rw [this]
     exact Sa ndl (ndP _) ml
    have s15:=s14.trans s5
    have st5:=st1.same s15
    have fin:∃n:Nat,((0:Int)=(n:Int))∧∀t' H',Ai H5 H'→Py H' t' n→∃a b,Rp K H' (.ref t) a∧Rp K H' (.ref t') b∧SeqAt.shaped a=true∧SeqAt.shaped b=true∧Q (.bl (PyData.eqv a b)) H':=⟨0,rfl,fun t' H6 s6 rf'=>⟨_,_,Km ((rf.up s15).up s6),Km rf',F6 0 (by decide),F6 0 (by decide),by
     rw [Eo (F6 0 (by decide))]
     exact k _ _ _ _ (st5.same s6) ⟨Int.le_refl _,Nat.le_refl _⟩ fun _=>⟨rfl,rfl⟩⟩⟩
    refine ⟨D2,kvs,rfl,eD,_,.inl (A0.of st5.ek),⟨fun _=>⟨fun _=>fin,fun h=>nb h⟩,fun h=>⟨fun _=>fin,fun h'=>?_⟩⟩⟩
    have h:¬((kv.length:Nat):Int)=40:=of_decide_eq_false h
    have h':¬((kvs.length:Nat):Int)>8:=of_decide_eq_false h'
    exact absurd ⟨by omega,by omega⟩ fit
theorem Os {n:Nat}{g:TG}{tc:TT}{te:TE}{k:Nat}{js:List Nat}{σ:L2.St}{H1:Hp}{Q:VK}(c:Nat→Bool)(hz:n≤1000)
  (hs:∀i H2,i<n→Ai H1 H2→∀(P:VK) (P':Hp→Prop),(c i=true→∀H3,Ai H2 H3→P (.int (0+(i:Int))) H3)→(c i=false→∀H3,Ai H2 H3→P' H3)→g (.int (0+(i:Int))) (List.replicate k none++capσ js σ) H2 fun σ2 H3=>σ2.drop k=capσ js σ∧tc σ2 H3 fun b H4=>Br b (te σ2 H4 P) (P' H4))
  (hq:∀D H',Ai H1 H'→H1 D=none→H' D=some (.lst ((((List.range n).filter c).map fun j:Nat=>(j:Int)).map V.int))→Q (.ref D) H'):Gf (Itr 0 n) g tc te k js σ H1 Q:=by
 unfold Gf
 intro D hD
 refine ⟨fun i m H=>m=n-i∧i≤n∧Ai H1 H∧H D=some (.lst ((((List.range i).filter c).map fun j:Nat=>(j:Int)).map V.int)),⟨n,by simp,Nat.zero_le _,Al hD,Ad⟩,?_⟩
 rintro i m H ⟨rfl,hi,sm,hH⟩
 by_cases hlt:i<n
 ·refine .inr ⟨hlt,fun x H' y=>?_⟩
  obtain ⟨rfl,rfl⟩:=y
  have yl:((((List.range i).filter c).map fun j:Nat=>(j:Int)).map V.int).length<sizeLine:=by
   rw [List.length_map,List.length_map]
   refine Nat.lt_of_le_of_lt (List.length_filter_le _ _) ?_
   rw [List.length_range]
   exact Nat.lt_of_lt_of_le hlt (Nat.le_trans hz (by decide))
  refine hs i _ hlt sm _ _ (fun hc H3 s3=>⟨_,s3 _ _ hH,yl,n-(i+1),by omega,rfl,hlt,Bs (sm.trans s3) hD,?_⟩) fun hc H3 s3=>⟨n-(i+1),by omega,rfl,hlt,sm.trans s3,?_⟩
  ·rw [Ad,List.range_succ,List.filter_append]
   have ef:[i].filter c=[i]:=by simp [hc]
   rw [ef,List.map_append,List.map_append,Int.zero_add]
   rfl
  ·rw [List.range_succ,List.filter_append]
   have ef:[i].filter c=[]:=by simp [hc]
   rw [ef,List.append_nil]
   exact s3 _ _ hH
 ·have e:i=n:=by omega
  subst e
  exact .inl ⟨Nat.le_refl _,hq D _ sm hD hH⟩
def Mf (K:PySem.W.Frag)(ns:List Int):Sp:=fun vs H Q _=>match vs with
 |[.ref L,.ref KL,.str x]=>∃(N:Hp) (A R S:Addr) (nm:List Str) (es:List En) (last:Int) (kv:List V) (so st fi one two:Int) (rows:List Rw),(Jl K N H L A R KL S nm es last kv∧N (Bi K)=none∧Ni K N R so st fi one two rows∧Tb rows∧Nb st one two∧Bd 40 fi)∧∀H',Jl K N H' L A R KL S nm es last kv→Q (.bl true) H'
 |_=>False
theorem L8:Ao ["_law_ledger","_law_kept","_law_name","_law_found"] ["_law_ledger","_law_kept","_law_name"] (Ag Jy):=⟨rfl,rfl,rfl,by decide +kernel,rfl,by decide +kernel,by decide +kernel⟩
theorem Tj (d:B0 K mg "_law_worth" Jy ["_law_ledger","_law_kept","_law_name"])(er:Bh K mg c_LadderError c_Ledger c_NoBook c_NoFit c_NoGame c_NoNumber c_NoPlayer c_NoRow c_NoTable c_Rule)(n_isinstance:mg "isinstance"=none)(n_tuple:mg "tuple"=none)  (c_l_refusal:Bf P w K mg base "_law_refusal" ["_law_at"] 1 (Cu K ns))(c_l_there:Bf P w K mg base "_law_there" ["_law_kept"] 1 (Ib K ns))(c_l_asked:Bf P w K mg base "_law_asked" ["_law_ledger","_law_word","_law_thing"] 13 (Ee K ns)):Bf P w K mg base "_law_worth" ["_law_ledger","_law_kept","_law_name"] 14 (Mf K ns):=by
 refine d.cal (k:=13) L8 (fun vs H Q E h=>?_) (fun f cdv A outer s H vs Q E hr h=>?_)
 ·match vs,h with
  |[.ref L,.ref KL,.str x],_=>rfl
 ·match vs,h with
  | [.ref L,.ref KL,.str x],hq0=>
   obtain ⟨N,A,R,S,nm,es,last,kv,so,st,fi,one,two,rows,⟨sa,nT,hR,tb,b,bf⟩,k⟩:=hq0
   refine ⟨_,(@Ae _ _ _ _ _ (@Ar _ _ (3) _ _ _ _ L8.nd rfl (by trivial) (@An _ _ _ _ _ _ _ _ _ _ _ c_l_asked hr (by decide) (by rfl) (@Aa _ _ _ _ _ (dv 0) (@Aa _ _ _ _ _ C4 (@Aa _ _ _ _ _ (dv 2) Ac (by rfl)) (by rfl)) (by rfl)) (by decide) (by rfl) (by rfl)) (by rfl) (by trivial)) (@Ae _ _ _ _ _ (@Ct _ _ _ _ _ _ _ _ (@Aef _ _ _ _ _ _ (@u1 _ _ hr.units) (dv 2) (@An _ _ _ _ _ _ _ _ _ _ _ c_l_there hr (by decide) (by rfl) (@Aa _ _ _ _ _ (dv 1) Ac (by rfl)) (by decide) (by rfl) (by rfl)) (by with_unfolding_all rfl)) (@Af _ _ _ (@At _ _ _ _ (@Kx _ _ _ _ _ _ _ (@Bo _ _ _ _ _ _ _ _ G4 (@Am _ _ _ _ _ _ _ Au (dv 3) Ab (fun _ _=>rfl)) C4 (@A1 _ _ (by decide) (by decide))) (@Ia _ _ _ _ _ (@Aq _ _ _ _ _ _ _ _ _ R5 (by rfl) n_isinstance (by decide +kernel) (@Aa _ _ _ _ _ (@Am _ _ _ _ _ _ _ Au (dv 3) Ab (fun _ _=>rfl)) (@Aa _ _ _ _ _ (W3 "tuple" (by rfl) n_tuple (by decide +kernel)) Ac (by rfl)) (by rfl)) (by decide) (by decide) (by rfl) (by rfl)))))) A5) (@Af _ _ _ (@At _ _ _ _ (@Bo _ _ _ _ _ _ _ _ (@Iv _ hr.units) (dv 3) (@An _ _ _ _ _ _ _ _ _ _ _ c_l_refusal hr (by decide) (by rfl) (@Aa _ _ _ _ _ Ab Ac (by rfl)) (by decide) (by rfl) (by rfl)) (@A1 _ _ (by decide) (by decide))))))),?_⟩
   have le:=sa.le
   refine .inr (.inr ⟨rfl,x,A,R,es,last,so,st,fi,one,two,rows,rfl,⟨sa.lg,Ud hR nT sa.sm,tb,b,bf,sa.le,sa.gk,sa.tk,sa.pl⟩,fun hx t q y H1 sm tk1 et eq=>?_,fun hx t H1 sm tk1 rf=>?_⟩)
   ·have s1:=sa.up sm tk1 nT
    refine ⟨es,kv,⟨A0.of s1.ek,s1.ak,by omega⟩,fun D l H2 s2 th ml=>?_⟩
    obtain ⟨kvs,eD,ekv,ndl⟩:=th
    refine ⟨D,_,rfl,.inl ⟨kvs,Sum.inr x,.inl eD,rfl,rfl⟩,?_⟩
    rw [Aab ekv x,decide_eq_true ((ml x).mpr hx)]
    exact ⟨fun _=>⟨_,s2 _ _ et,⟨fun _=>⟨_,s2 _ _ et,_,true,"tuple",s2 _ _ eq,rfl,rfl,k H2 (s1.same s2)⟩,fun h=>nb h⟩⟩,fun h=>nb h⟩
   ·have s1:=sa.up sm tk1 nT
    refine ⟨es,kv,⟨A0.of s1.ek,s1.ak,by omega⟩,fun D l H2 s2 th ml=>?_⟩
    obtain ⟨kvs,eD,ekv,ndl⟩:=th
    refine ⟨D,_,rfl,.inl ⟨kvs,Sum.inr x,.inl eD,rfl,rfl⟩,?_⟩
    rw [Aab ekv x,decide_eq_false fun z=>hx ((ml x).mp z)]
    refine ⟨fun h=>nb h,fun _=>⟨2,rfl,fun t' H3 s3 rf'=>⟨_,_,Km ((rf.up s2).up s3),Km rf',F6 2 (by decide),F6 2 (by decide),?_⟩⟩⟩
    rw [Eo (F6 2 (by decide))]
    exact k H3 ((s1.same s2).same s3)
theorem Yr {es:List En}{ys:List V}(a:Aw (fun (e:En) y=>y=V.int e.1) es ys):∀v∈ys,∃n:Int,v=.int n:=by
 induction a with
 |nil=>exact fun v h=>by cases h
 |cons h t ih=>
  intro v hv
  rcases List.mem_cons.mp hv with e|hv
  ·exact ⟨_,e.trans h⟩
  ·exact ih v hv
theorem X8 {es:List En}{u:Nat}:(C7 ((es.eraseIdx u).map (·.2))).length≤(C7 (es.map (·.2))).length:=Gz (D6 (Ch _)) fun x hx=>by
 obtain ⟨g,hg,c⟩:=B4.mp hx
 obtain ⟨e,he,rfl⟩:=List.mem_map.mp hg
 exact B4.mpr ⟨e.2,List.mem_map.mpr ⟨e,List.mem_of_mem_eraseIdx he,rfl⟩,c⟩
theorem Act {n:Nat}{c:Nat→Bool}(h:∀i,i<n→c i=false):(List.range n).filter c=[]:=List.filter_eq_nil_iff.mpr fun i hi=>by
 rw [h i (List.mem_range.mp hi)]
 decide
theorem Ac4 {n u:Nat}{c:Nat→Bool}(hu:u<n)(hc:c u=true)(h:∀i,i<n→c i=true→i=u):(List.range n).filter c=[u]:=by
 have nd:((List.range n).filter c).Nodup:=List.nodup_range.filter _
 have m:∀i,i∈(List.range n).filter c↔i∈[u]:=fun i=>by
  rw [List.mem_filter,List.mem_range,List.mem_singleton]
  exact ⟨fun z=>h i z.1 z.2,fun z=>z▸⟨hu,hc⟩⟩
 have p:=(List.perm_ext_iff_of_nodup nd (List.pairwise_singleton ..)).mpr m
 exact List.perm_singleton.mp p
def N3 (K:PySem.W.Frag)(ns:List Int):Sp:=fun vs H Q _=>match vs with
 |[.ref L,.ref KL,.ref S,.int c]=>∃(N:Hp) (A R:Addr) (nm:List Str) (es:List En) (last:Int) (kv:List V),(Jl K N H L A R KL S nm es last kv∧Non K N L A KL S∧0≤last) ∧
  ∀H' es' kv',Jl K N H' L A R KL S nm es' last kv'→(es'.length=es.length→es'=es)→Q (.bl true) H'
 |_=>False
theorem D8:Ao ["_law_ledger","_law_kept","_law_state","_law_cell_here","_law_some","_law_number","_law_found","_law_spots"] ["_law_ledger","_law_kept","_law_state","_law_cell_here"] (Ag Mc):=⟨rfl,rfl,rfl,by decide +kernel,rfl,by decide +kernel,by decide +kernel⟩
theorem Xg (d:B0 K mg "_law_take" Mc ["_law_ledger","_law_kept","_law_state","_law_cell_here"])(er:Bh K mg c_LadderError c_Ledger c_NoBook c_NoFit c_NoGame c_NoNumber c_NoPlayer c_NoRow c_NoTable c_Rule)(n_range:mg "range"=none)(n_len:mg "len"=none)(n_max:mg "max"=none)  (c_l_refusal:Bf P w K mg base "_law_refusal" ["_law_at"] 1 (Cu K ns))(c_l_asked:Bf P w K mg base "_law_asked" ["_law_ledger","_law_word","_law_thing"] 13 (Ee K ns)):Bf P w K mg base "_law_take" ["_law_ledger","_law_kept","_law_state","_law_cell_here"] 14 (N3 K ns):=by
 refine d.cal (k:=13) D8 (fun vs H Q E h=>?_) (fun f cdv A outer s H vs Q E hr h=>?_)
 ·match vs,h with
  |[.ref L,.ref KL,.ref S,.int c],_=>rfl
 ·match vs,h with
  | [.ref L,.ref KL,.ref S,.int c],hq0=>
   obtain ⟨N,A,R,nm,es,last,kv,⟨st,no,la0⟩,k⟩:=hq0
   refine ⟨_,(@Ae _ _ _ _ _ (@Ar _ _ (4) _ _ _ _ D8.nd rfl (by trivial) (@Cg _ _ _ _ _ _ _ _ _ _ J1 (@Cg _ _ _ _ _ _ _ _ _ _ J1 (@Fw _ _ _ _ _ _ _ _ _ _ ["_law_number","_law_played"] [] [] rfl (@Db _ _ _ _ (dv 1)) (fun C s H fp=>(show PG _ _ (Ad6 K 2 _) from T8 rfl (Fa (Bb (i:=0) (show List.Nodup [("_law_number":Str),("_law_played":Str)] by decide +kernel) rfl (by trivial)) (Fa (Bb (i:=1) (show List.Nodup [("_law_number":Str),("_law_played":Str)] by decide +kernel) rfl (by trivial)) Pm)))) (fun C s H fp=>(dv 0)) rfl rfl (by decide +kernel) (by decide +kernel) (by rfl) True.intro True.intro (by intro _;rfl)) (B5 (Aj Bm (Aj Dk (dv 3) Ab) (Aq (Nv rfl) (by rfl) n_max (by decide +kernel) (Aa Ab (Aa (Aq Cm (by rfl) n_len (by decide +kernel) (Aa (dv 1) Ac)) Ac))))) Fz) Fz (B5 Ab)) (by rfl) (by trivial)) (@Ae _ _ _ _ _ (@Ar _ _ (4) _ _ _ _ D8.nd rfl (by trivial) (@Aj _ _ _ _ _ _ _ _ Mw (dv 4) (@F5 _ _ _ _ (@Aa _ _ _ _ _ (@Aj _ _ _ _ _ _ _ _ Cl Ab (@Aj _ _ _ _ _ _ _ _ Bm (@Aj _ _ _ _ _ _ _ _ Dk (dv 3) Ab) (@Aj _ _ _ _ _ _ _ _ Cl (@Am _ _ _ _ _ _ _ Cc (dv 2) Ab (fun _ _=>rfl)) Ab))) (@Aa _ _ _ _ _ Ab (@Aa _ _ _ _ _ (@Aj _ _ _ _ _ _ _ _ M7 (@Aj _ _ _ _ _ _ _ _ M7 Ab Ab) (@Aj _ _ _ _ _ _ _ _ Bm (dv 3) Ab)) (@Aa _ _ _ _ _ (@Aj _ _ _ _ _ _ _ _ Cl (@Am _ _ _ _ _ _ _ Cc (dv 2) Ab (fun _ _=>rfl)) Ab) (@Aa _ _ _ _ _ (@Aj _ _ _ _ _ _ _ _ Bm (dv 3) (@Aj _ _ _ _ _ _ _ _ X1 Ab Ab)) Ac (by rfl)) (by rfl)) (by rfl)) (by rfl)) (by rfl)))) (by rfl) (by trivial)) (@Dc _ _ _ _ _ (@Ar _ _ (5) _ _ _ _ D8.nd rfl (by trivial) (@Am _ _ _ _ _ _ _ Cc (dv 4) (@Aj _ _ _ _ _ _ _ _ Bm (@Aj _ _ _ _ _ _ _ _ Dk (dv 3) Ab) (@Aq _ _ _ _ _ _ _ _ _ Cm (by rfl) n_len (by decide +kernel) (@Aa _ _ _ _ _ (dv 4) Ac (by rfl)) (by decide) (by decide) (by rfl) (by rfl))) (fun _ _=>rfl)) (by rfl) (by trivial)) (@Ae _ _ _ _ _ (@Ar _ _ (6) _ _ _ _ D8.nd rfl (by trivial) (@An _ _ _ _ _ _ _ _ _ _ _ c_l_asked hr (by decide) (by rfl) (@Aa _ _ _ _ _ (dv 0) (@Aa _ _ _ _ _ C4 (@Aa _ _ _ _ _ (dv 5) Ac (by rfl)) (by rfl)) (by rfl)) (by decide) (by rfl) (by rfl)) (by rfl) (by trivial)) (@Ae _ _ _ _ _ (@N6 _ _ _ _ _ _ _ _ _ (7) _ _ _ _ _ _ ["_law_k"] ["_law_number","_law_kept"] [5,1] rfl (@E9 _ _ _ _ _ _ (by rfl) n_range (@Aa _ _ _ _ _ (@Aq _ _ _ _ _ _ _ _ _ Cm (by rfl) n_len (by decide +kernel) (@Aa _ _ _ _ _ (dv 1) Ac (by rfl)) (by decide) (by decide) (by rfl) (by rfl)) Ac (by rfl)) (by rfl)) (fun C s H fp=>(@Bb _ _ (0) _ (show List.Nodup [("_law_k":Str),("_law_number":Str),("_law_kept":Str)] by decide +kernel) rfl (by trivial) (by trivial))) (fun C s H fp=>(@Bw _ _ _ _ _ _ _ _ G4 (@Am _ _ _ _ _ _ _ Au (@Am _ _ _ _ _ _ _ (show IxR _ (Ai8 K) from Cc) (dv 2) (dv 0) (fun _ _=>rfl)) Ab (fun _ _=>rfl)) (dv 1) (@A1 _ _ (by decide) (by decide)))) (fun C s H fp=>(dv 0)) rfl rfl (by decide +kernel) (by decide +kernel) (by rfl) ⟨rfl,⟨rfl,True.intro⟩⟩ ⟨⟨rfl,rfl,rfl,rfl⟩,⟨⟨rfl,rfl,rfl,rfl⟩,True.intro⟩⟩ D8.nd rfl rfl (by intro _;rfl) (by rfl)) (@Ae _ _ _ _ _ (@Ct _ _ _ _ _ _ _ _ (@Bw _ _ _ _ _ _ _ _ (@Iv _ hr.units) (dv 7) (@Em _ _ _ _ Ac) (@A1 _ _ (by decide) (by decide))) (@Af _ _ _ (@At _ _ _ _ (@Bo _ _ _ _ _ _ _ _ (@Iv _ hr.units) (dv 6) (@An _ _ _ _ _ _ _ _ _ _ _ c_l_refusal hr (by decide) (by rfl) (@Aa _ _ _ _ _ Ab Ac (by rfl)) (by decide) (by rfl) (by rfl)) (@A1 _ _ (by decide) (by decide))))) A5) (@Ae _ _ _ _ _ (@Ci _ _ _ _ (@Kz _ _ _ _ _ _ _ _ _ _ _ _ PySem.F.plainAttrs_list PySem.F.slot_list_pop PySem.F.type_list_pop Sj (dv 1) (@Aa _ _ _ _ _ (@Am _ _ _ _ _ _ _ Cc (dv 7) Ab (fun _ _=>rfl)) Ac (by rfl)) (by rfl) (by rfl) (by rfl) (by rfl) (by rfl)) (by rfl)) (@Af _ _ _ (@At _ _ _ _ (@Bo _ _ _ _ _ _ _ _ G4 (@Am _ _ _ _ _ _ _ Au (dv 6) Ab (fun _ _=>rfl)) C4 (@A1 _ _ (by decide) (by decide)))))))))))),?_⟩
   have lk:=st.ak.len
   have le:=st.le
   have kL:(kv.length:Int)=es.length:=by rw [lk]
   refine ⟨KL,rfl,⟨_,A0.of st.ek⟩,Gy Xe He (fun _ e y=>y=V.int e.1) (fun _ _ _ _ _ h=>h) (by omega) (A0.of st.ek) st.ak ?_ ?_⟩
   ·intro v e H2 hM he s2 P hP
    obtain ⟨t,p,rfl,ht,hp⟩:=hM
    exact ⟨t,_,rfl,Ed.of ht,rfl,_,_,rfl,_,_,rfl,rfl,rfl,hP _ _ (Ai.refl _) rfl⟩
   intro D H1 ys s1 _ e1 a1
   have iy:=Yr a1
   have ly:=a1.len
   refine ⟨⟨by decide,Ax rfl⟩,_,.inl (A0.of (s1 _ _ st.ek)),1,_,rfl,?_,_,rfl,_,A0.of e1,fun P2 H2 s2 e2=>⟨_,rfl,_,A0.of e2,fun P3 H3 s3 e3=>?_⟩⟩
   ·show (0:Int)<if (kv.length:Int)>1 then (kv.length:Int) else 1
    split<;>omega
   have s13:=s1.trans (s2.trans s3)
   have iz:∀v∈Dn (Dn ys (some (c / 8 % if (kv.length:Int)>1 then (kv.length:Int) else 1)) none) none (some 1),∃n:Int,v=.int n:=fun v hv=>iy v (Rm (Rm hv))
   have lz3:(Dn (Dn ys (some (c / 8 % if (kv.length:Int)>1 then (kv.length:Int) else 1)) none) none (some 1)).length≤100:=by
    unfold Dn
    rw [List.length_take,List.length_drop,List.length_take,List.length_drop]
    omega
   have e3:H3 P3=some (.lst (Dn (Dn ys (some (c / 8 % if (kv.length:Int)>1 then (kv.length:Int) else 1)) none) none (some 1))):=e3
   generalize Dn (Dn ys (some (c / 8 % if (kv.length:Int)>1 then (kv.length:Int) else 1)) none) none (some 1)=zs at e3 iz lz3
   have st3:=st.same s13
   refine ⟨⟨by decide,Ax rfl⟩,_,.int last,A0.of st3.es,rfl,(by show 0<last+1;omega),(by show (0:Int)<9;decide),_,.int last,A0.of st3.es,rfl,⟨by decide,by decide,by decide⟩,(by show (0:Int)<10 ^ Int.toNat 9;decide),fun P4 H4 s4 e4=>⟨_,_,s4 _ _ e3,e4,(by show zs.length+5≤1000;omega),fun P5 H5 s5 e5=>?_⟩⟩
   have st5:=st3.same (s4.trans s5)
   clear a1 iy e1 e2 e3 e4 s1 s2 s3 s4 s5 s13 st3
   refine ⟨fun σ H'=>∃n:Int,σ=[some (.ref L),some (.ref KL),some (.ref S),some (.int c),some (.ref P5),some (.int n),none,none]∧H'=H5,?_,?_⟩
   ·refine ⟨⟨by decide,Ax rfl⟩,_,.inl (A0.of e5),?_⟩
    obtain ⟨us,hus⟩:∃us:List V,us=zs++[.int (1+c / 8 % (last+1)),.int 0,.int (0-1-c % 9),.int (last+1),.int (c % 10 ^ Int.toNat 9)]:=⟨_,rfl⟩
    have e5:H5 P5=some (.lst us):=by
     rw [hus]
     exact e5
    have lu:0<us.length:=by
     rw [hus,List.length_append]
     show 0<zs.length+5
     omega
    have iu:∀v∈us,∃n:Int,v=.int n:=fun v hv=>by
     rw [hus] at hv
     rcases List.mem_append.mp hv with h|h
     ·exact iz v h
     ·rcases List.mem_cons.mp h with h|h
      ·exact ⟨_,h⟩
      rcases List.mem_cons.mp h with h|h
      ·exact ⟨_,h⟩
      rcases List.mem_cons.mp h with h|h
      ·exact ⟨_,h⟩
      rcases List.mem_cons.mp h with h|h
      ·exact ⟨_,h⟩
      ·exact ⟨_,List.mem_singleton.mp h⟩
    show 0<((zs++[V.int (1+c / 8 % (last+1)),.int 0,.int (0-1-c % 9),.int (last+1),.int (c % 10 ^ Int.toNat 9)]).length:Int)∧_
    rw [←hus]
    have u0:=Int.emod_nonneg (c / 3) (show (us.length:Int)≠0 by omega)
    have u1:=Int.emod_lt_of_pos (c / 3) (show 0<(us.length:Int) by omega)
    obtain ⟨u,hu⟩:∃u:Nat,c / 3 % (us.length:Int)=u:=⟨_,(Int.toNat_of_nonneg u0).symm⟩
    have ul:u<us.length:=by omega
    obtain ⟨n,hn⟩:=iu _ (List.getElem_mem ul)
    exact ⟨by omega,_,.int n,A0.of e5,(by show Qt _ (c / 3 % (us.length:Int))=_;rw [hu];exact Cn (by rw [List.getElem?_eq_getElem ul,hn])),n,rfl,rfl⟩
   rintro σ H' ⟨n,rfl,rfl⟩
   have pnat:∀{H':Hp} {i:Nat} {kv':List V} {es':List En},Aw (Xe H') kv' es'→i<es'.length→∃t p,kv'[i]? =some (.ref t)∧H' t=some (.tup [.int (es'.getD i d0).1,.ref p]):=fun {H' i kv' es'} a hi=>by
    have hv:i<kv'.length:=by rw [a.len];exact hi
    obtain ⟨e,he,t,p,e',h0,_⟩:=a.get (List.getElem?_eq_getElem hv)
    refine ⟨t,p,by rw [List.getElem?_eq_getElem hv,e'],?_⟩
    rw [List.getD_eq_getElem?_getD,he]
    exact h0
   have getd:∀{i:Nat},(h:i<es.length)→es.getD i d0=es[i]:=fun {i} h=>by
    rw [List.getD_eq_getElem?_getD,List.getElem?_eq_getElem h]
    rfl
   refine .inr (.inl ⟨rfl,n,A,R,es,last,rfl,⟨st5.lg,st5.ok.inc,st5.le,st5.pl,st5.tk⟩,fun g hn t D' H6 fr et lg6 tk6=>?_,fun nn t H6 s6 rf=>?_⟩)
   ·obtain ⟨u,hu,eu⟩:=List.getElem_of_mem hn
    obtain ⟨kl,kt⟩:=Iz fr st5.lg st5.tk
    have ek6:=kl _ _ st5.ek
    have ak6:=st5.ak.imp fun v e r=>He v e _ _ kt r
    refine ⟨_,.inl (A0.of ek6),_,rfl,by omega,by omega,Os (n:=kv.length) (fun i=>decide ((es.getD i d0).1=n)) (by omega) ?_ ?_⟩
    ·intro i H7 hi s7 P P' hP hP'
     obtain ⟨t',p',z1,z2⟩:=pnat ak6 (show i<es.length by omega)
     refine ⟨rfl,_,.ref t',A0.of (s7 _ _ ek6),(by rw [Int.zero_add];exact Cn z1),_,s7 _ _ z2,⟨fun h=>hP h _ (Ai.refl _),fun h=>hP' h _ (Ai.refl _)⟩⟩
    intro D7 H7 s7 _ e7
    have un:∀i,i<es.length→decide ((es.getD i d0).1=n)=true→i=u:=fun i hi h=>by
     have h:=of_decide_eq_true h
     rw [getd hi] at h
     have inc:=List.pairwise_iff_getElem.mp st5.ok.inc
     have e0:es[u].1=n:=by rw [eu]
     rcases Nat.lt_trichotomy i u with z|z|z
     ·have:=inc i u hi hu z
      omega
     ·exact z
     ·have:=inc u i hu hi z
      omega
    rw [lk,Ac4 hu (decide_eq_true (by rw [getd hu,eu])) un] at e7
    refine ⟨by decide,fun Z hZ=>?_⟩
    have s8:Ai H7 (upd H7 Z (.lst [])):=Al hZ
    have e8:=s8 _ _ e7
    have z8:upd H7 Z (.lst []) Z=some (.lst []):=Ad
    generalize upd H7 Z (.lst [])=H8 at s8 e8 z8
    have s68:=s7.trans s8
    refine ⟨_,_,.lst (A0.of e8) (.cons (.int _) .nil),.lst (A0.of z8) .nil,rfl,rfl,⟨fun h=>nb h,fun _=>?_⟩⟩
    have ek8:=s68 _ _ ek6
    have ul:u<kv.length:=by omega
    refine ⟨.inl ⟨rfl,_,A0.of ek8⟩,_,.int (u:Int),A0.of e8,rfl,KL,kv,_,u,kv[u],rfl,rfl,ek8,by omega,by omega,Zh ul,List.getElem?_eq_getElem ul,?_⟩
    have x9:Sx KL H8 (upd H8 KL (.lst (kv.eraseIdx u))):=Sx.upd
    have kt9:Kt H8 (upd H8 KL (.lst (kv.eraseIdx u))):=E6 ek8
    have kt69:=(A6 s68).trans kt9
    have wi:wo es n=es.eraseIdx u:=by
     have:=Te st5.ok.inc (i:=u) (e:=(n,g)) (by rw [List.getElem?_eq_getElem hu,eu])
     exact this
    rw [wi] at lg6
    have subE:∀e∈es.eraseIdx u,e∈es:=fun e he=>List.mem_of_mem_eraseIdx he
    have le9:(es.eraseIdx u).length≤es.length:=(List.eraseIdx_sublist ..).length_le
    have st9:Jl K N (upd H8 KL (.lst (kv.eraseIdx u))) L A R KL S nm (es.eraseIdx u) last (kv.eraseIdx u):=⟨x9.n ((Zu fr st5.sm no.l no.a no.t).trans s68) no.k,Ej (tk6.up s68) x9 (.inl ⟨_,ek8⟩),(lg6.up s68).sxl ek8,⟨st5.ok.inc.sublist (List.eraseIdx_sublist ..),fun e he=>st5.ok.le e (subE e he),fun e he=>st5.ok.mem e (subE e he)⟩,by omega,Nat.le_trans X8 st5.pl,fun e he=>st5.gk e (subE e he),Ad,(Hv u ak6).imp fun v e r=>He v e _ _ kt69 r,x9 _ _ (Ne.symm no.ne) (s68 _ _ (kl _ _ st5.es))⟩
    refine ⟨_,kt69 _ _ et,k _ _ _ st9 fun h=>?_⟩
    rw [List.length_eraseIdx_of_lt hu] at h
    omega
   ·have st6:=st5.same s6
    refine ⟨_,.inl (A0.of st6.ek),_,rfl,by omega,by omega,Os (n:=kv.length) (fun i=>decide ((es.getD i d0).1=n)) (by omega) ?_ ?_⟩
    ·intro i H7 hi s7 P P' hP hP'
     obtain ⟨t',p',z1,z2⟩:=pnat st6.ak (show i<es.length by omega)
     refine ⟨rfl,_,.ref t',A0.of (s7 _ _ st6.ek),(by rw [Int.zero_add];exact Cn z1),_,s7 _ _ z2,⟨fun h=>hP h _ (Ai.refl _),fun h=>hP' h _ (Ai.refl _)⟩⟩
    intro D7 H7 s7 _ e7
    rw [lk,Act fun i hi=>decide_eq_false (by rw [getd hi];exact nn _ (List.getElem_mem hi))] at e7
    refine ⟨by decide,fun Z hZ=>?_⟩
    have s8:Ai H7 (upd H7 Z (.lst [])):=Al hZ
    have e8:=s8 _ _ e7
    have z8:upd H7 Z (.lst []) Z=some (.lst []):=Ad
    generalize upd H7 Z (.lst [])=H8 at s8 e8 z8
    refine ⟨_,_,.lst (A0.of e8) .nil,.lst (A0.of z8) .nil,rfl,rfl,⟨fun _=>⟨1,rfl,fun t' H9 s9 rf'=>⟨_,_,Km ((rf.up (s7.trans s8)).up s9),Km rf',F6 1 (by decide),F6 1 (by decide),?_⟩⟩,fun h=>nb h⟩⟩
    rw [Eo (F6 1 (by decide))]
    exact k _ _ _ (st6.same ((s7.trans s8).trans s9)) fun _=>rfl
def Pk (Xs:List Addr)(H:Hp):Hp:=fun b=>if b∈Xs then none else H b
theorem Dy {Xs:List Addr}{H:Hp}{b:Addr}{o:HO}(n:b∉Xs)(e:H b=some o):Pk Xs H b=some o:=by
 unfold Pk
 rw [if_neg n]
 exact e
theorem B7 {Xs:List Addr}{H:Hp}{b:Addr}(n:b∈Xs):Pk Xs H b=none:=by
 unfold Pk
 rw [if_pos n]
theorem Op {Xs:List Addr}{H:Hp}:Ai (Pk Xs H) H:=fun b o e=>by
 unfold Pk at e
 by_cases c:b∈Xs
 ·rw [if_pos c] at e
  cases e
 ·rw [if_neg c] at e
  exact e
theorem Yx {K:PySem.W.Frag}{Xs:List Addr}{R:Addr}{H:Hp}{so st fi one two:Int}{rows:List Rw}(h:Ni K H R so st fi one two rows)(ne:1≤rows.length)(n:R∉Xs)(hx:∀X∈Xs,(∀zs,H X=some (.lst zs)→∃l:List Int,zs=l.map V.int)∧∀zs,H X≠some (.tup zs)):Ni K (Pk Xs H) R so st fi one two rows:=by
 obtain ⟨C,dx,fs,T,e,kn,f,vs,t1,t2⟩:=h
 refine ⟨C,dx,fs,T,Dy n e,kn,f,vs,Dy (fun z=>?_) t1,t2.imp fun v g r=>Dv v g _ _ (fun p xs e=>Dy (fun z=>(hx _ z).2 _ e) e) r⟩
 obtain ⟨l,rfl⟩:=(hx _ z).1 _ t1
 cases l with
 |nil=>
  cases t2
  exact absurd ne (by decide)
 | cons x l=>
  cases t2 with
  |cons a b=>
   obtain ⟨t,u,e,_⟩:=a
   cases e
theorem Vw:Jj [(0,1,2),(100,2,3)]:=⟨by decide,fun r hr=>by
 rcases List.mem_cons.mp hr with rfl|hr
 ·decide
 ·rw [List.mem_singleton.mp hr]
  decide,rfl,by decide⟩
theorem Jl.grow {K:PySem.W.Frag}{N H:Hp}{L A R KL S:Addr}{nm:List Str}{es:List En}{last:Int}{kv:List V}(h:Jl K N H L A R KL S nm es last kv)(no:Non K N L A KL S):∃N',Jl K N' H L A R KL S nm es last kv∧Non K N' L A KL S∧Ai N N'∧∀b o,b∉[L,A,Bi K,KL,S]→H b=some o→N' b=some o:=
 ⟨Pk [L,A,Bi K,KL,S] H,⟨Op,h.tk,h.lg,h.ok,h.le,h.pl,h.gk,h.ek,h.ak,h.es⟩,⟨B7 (by simp),B7 (by simp),B7 (by simp),B7 (by simp),B7 (by simp),no.ne⟩,fun b o e=>Dy (fun z=>by
  rcases List.mem_cons.mp z with z|z
  ·rw [z,no.l] at e;cases e
  rcases List.mem_cons.mp z with z|z
  ·rw [z,no.a] at e;cases e
  rcases List.mem_cons.mp z with z|z
  ·rw [z,no.t] at e;cases e
  rcases List.mem_cons.mp z with z|z
  ·rw [z,no.k] at e;cases e
  ·rw [List.mem_singleton.mp z,no.s] at e;cases e) (h.sm b o e),fun b o n e=>Dy n e⟩
theorem Jl.low {K:PySem.W.Frag}{N N' H:Hp}{L A R KL S:Addr}{nm:List Str}{es:List En}{last:Int}{kv:List V}(h:Jl K N' H L A R KL S nm es last kv)(s:Ai N N'):Jl K N H L A R KL S nm es last kv:=⟨s.trans h.sm,h.tk,h.lg,h.ok,h.le,h.pl,h.gk,h.ek,h.ak,h.es⟩
theorem Yc {K:PySem.W.Frag}{H:Hp}{P B W:Addr}{bv wv:List V}{gs:List Gm}{ss:List (Str×Q2)}(e:H P=some (.lst [.ref B,.ref W]))(eB:H B=some (.lst bv))(aB:Aw (Ck H) bv gs)(eW:H W=some (.lst wv))(aW:Aw (Nr H) wv ss):Rp K H (.ref P) (.list [.list (gs.map gd),.list (ss.map Vb)]):=.lst (A0.of e) (.cons (Af5 (A0.of eB) aB) (.cons (.lst (A0.of eW) (Y2 aW)) .nil))
theorem Ae7 {a b:PyData}(ha:SeqAt.shaped a=true)(hb:SeqAt.shaped b=true)(da:a.depth≤3)(db:b.depth≤3):SeqAt.shaped (.list [a,b])=true:=by
 unfold SeqAt.shaped at ha hb ⊢
 have ca:=(Bool.and_eq_true _ _▸ha).1
 have cb:=(Bool.and_eq_true _ _▸hb).1
 have e:(PyData.list [a,b]).canLay0=true:=by
  show (a.canLay0&&(b.canLay0&&true))=true
  rw [ca,cb]
  rfl
 have d:(PyData.list [a,b]).depth=max a.depth (max b.depth 0)+1:=rfl
 rw [e,d,Bool.true_and]
 exact decide_eq_true (by omega)
theorem Wh {rows:List (Int×Int×Int)}(h:Jj rows):Tb rows:=by
 obtain ⟨⟨l1,l2⟩,ok,hd,_⟩:=h
 refine ⟨?_,fun r hr=>?_,l2⟩
 ·cases rows with
  |nil=>cases hd
  |cons r rs=>
   cases hd
   exact ⟨_,_,rfl,rfl⟩
 ·obtain ⟨⟨a1,a2⟩,b1,b2,b3,b4,b5⟩:=Uk (ok r hr)
  exact ⟨a1,by omega,b3,b4,by omega,b2,b5⟩
theorem Ui {xs:List V}{j:Nat}(h:j≤xs.length):Dn xs none (some (j:Int))=xs.take j:=by
 unfold Dn
 rw [HT.sIx_none,HT.sIx_nat,Nat.min_eq_left h,List.drop_zero,Nat.sub_zero]
theorem B9:Ao ["_law_script","_law_rule","_law_crowded","_law_names_here","_law_ledger","_law_kept","_law_state","_law_k","_law_cell_here","_law_ahead","_law_right","_law_played"] ["_law_script"] (Ag Hd):=⟨rfl,rfl,rfl,by decide +kernel,rfl,by decide +kernel,by decide +kernel⟩
theorem Agq (d:B0 K mg "law" Hd ["_law_script"])(er:Bh K mg c_LadderError c_Ledger c_NoBook c_NoFit c_NoGame c_NoNumber c_NoPlayer c_NoRow c_NoTable c_Rule)(n_len:mg "len"=none)(n_range:mg "range"=none)(n_min:mg "min"=none)(n_int:mg "int"=none)  (c_l_asked:Bf P w K mg base "_law_asked" ["_law_ledger","_law_word","_law_thing"] 13 (Ee K ns))(c_Ledger___init__:Cr P w K mg base [c_Ledger] [] "__init__" ["self","rule"] 9 (Ep K ns))(c_l_refusal:Bf P w K mg base "_law_refusal" ["_law_at"] 1 (Cu K ns))(c_l_put:Bf P w K mg base "_law_put" ["_law_ledger","_law_kept","_law_state","_law_played"] 14 (Qx K ns))(c_Ledger_take:Cr P w K mg base [c_Ledger] [] "take" ["self","number"] 6 (Ea K ns))(c_Ledger_worths:Cr P w K mg base [c_Ledger] [] "worths" ["self"] 11 (C5 K ns))(c_Ledger_games:Cr P w K mg base [c_Ledger] [] "games" ["self"] 4 (Co K ns))(c_l_game:Bf P w K mg base "_law_game" ["_law_cell_here","_law_names_here"] 1 (N7 K ns))(c_l_take:Bf P w K mg base "_law_take" ["_law_ledger","_law_kept","_law_state","_law_cell_here"] 14 (N3 K ns))(c_l_worth:Bf P w K mg base "_law_worth" ["_law_ledger","_law_kept","_law_name"] 14 (Mf K ns))(c_l_cell:Bf P w K mg base "_law_cell" ["_law_script","_law_k"] 1 (Oa K ns))(c_l_names:Bf P w K mg base "_law_names" ["_law_cell_here","_law_many"] 1 (Mb K ns))(c_Rule___init__:Cr P w K mg base [c_Rule] [] "__init__" ["self","step","first","table"] 6 (C8 K ns)):Bf P w K mg base "law" ["_law_script"] 15 (Sm "in_order" K ns):=by
 refine d.cal (k:=14) B9 (fun vs H Q E h=>?_) (fun f cdv A outer s H vs Q E hr h=>?_)
 ·match vs,h with
  |[.ref a],_=>rfl
 ·match vs,h with
  | [.ref a],hq0=>
   obtain ⟨hS,hl,hb,hT,k⟩:=hq0
   refine ⟨_,(@Ae _ _ _ _ _ (@Ar _ _ (1) _ _ _ _ B9.nd rfl (by trivial) (@Oz _ _ _ _ _ _ _ _ _ _ _ _ _ _ c_Rule___init__ (List.Mem.head _) er.m_Rule hr (by decide) (by rfl) er.b_Rule (@Aa _ _ _ _ _ (@Aj _ _ _ _ _ _ _ _ Bm (@An _ _ _ _ _ _ _ _ _ _ _ c_l_cell hr (by decide) (by rfl) (@Aa _ _ _ _ _ (dv 0) (@Aa _ _ _ _ _ Ab Ac (by rfl)) (by rfl)) (by decide) (by rfl) (by rfl)) Ab) (@Aa _ _ _ _ _ (@Aj _ _ _ _ _ _ _ _ Bm (@Aj _ _ _ _ _ _ _ _ Dk (@An _ _ _ _ _ _ _ _ _ _ _ c_l_cell hr (by decide) (by rfl) (@Aa _ _ _ _ _ (dv 0) (@Aa _ _ _ _ _ Ab Ac (by rfl)) (by rfl)) (by decide) (by rfl) (by rfl)) Ab) Ab) (@Aa _ _ _ _ _ (@F5 _ _ _ _ (@Aa _ _ _ _ _ (@Cj _ _ _ _ _ (@Aa _ _ _ _ _ Ab (@Aa _ _ _ _ _ (@Cj _ _ _ _ _ (@Aa _ _ _ _ _ Ab (@Aa _ _ _ _ _ Ab Ac (by rfl)) (by rfl))) Ac (by rfl)) (by rfl))) (@Aa _ _ _ _ _ (@Cj _ _ _ _ _ (@Aa _ _ _ _ _ Ab (@Aa _ _ _ _ _ (@Cj _ _ _ _ _ (@Aa _ _ _ _ _ Ab (@Aa _ _ _ _ _ Ab Ac (by rfl)) (by rfl))) Ac (by rfl)) (by rfl))) Ac (by rfl)) (by rfl))) Ac (by rfl)) (by rfl)) (by rfl)) (by decide) (by rfl) (by rfl)) (by rfl) (by trivial)) (@Ae _ _ _ _ _ (@Ar _ _ (2) _ _ _ _ B9.nd rfl (by trivial) (@Bo _ _ _ _ _ _ _ _ G4 (@Aj _ _ _ _ _ _ _ _ Bm (@An _ _ _ _ _ _ _ _ _ _ _ c_l_cell hr (by decide) (by rfl) (@Aa _ _ _ _ _ (dv 0) (@Aa _ _ _ _ _ Ab Ac (by rfl)) (by rfl)) (by decide) (by rfl) (by rfl)) Ab) Ab (@A1 _ _ (by decide) (by decide))) (by rfl) (by trivial)) (@Dc _ _ _ _ _ (@Ar _ _ (3) _ _ _ _ B9.nd rfl (by trivial) (@An _ _ _ _ _ _ _ _ _ _ _ c_l_names hr (by decide) (by rfl) (@Aa _ _ _ _ _ (@An _ _ _ _ _ _ _ _ _ _ _ c_l_cell hr (by decide) (by rfl) (@Aa _ _ _ _ _ (dv 0) (@Aa _ _ _ _ _ Ab Ac (by rfl)) (by rfl)) (by decide) (by rfl) (by rfl)) (@Aa _ _ _ _ _ (@Am _ _ _ _ _ _ _ Cc (@F5 _ _ _ _ (@Aa _ _ _ _ _ Ab (@Aa _ _ _ _ _ Ab Ac (by rfl)) (by rfl))) (@Fd _ _ _ _ _ _ _ _ _ Yk (by rfl) n_int (by decide +kernel) (@Aa _ _ _ _ _ (dv 2) Ac (by rfl)) (by decide) (by decide) (by rfl) (by rfl)) (fun _ _=>rfl)) Ac (by rfl)) (by rfl)) (by decide) (by rfl) (by rfl)) (by rfl) (by trivial)) (@Ae _ _ _ _ _ (@Ar _ _ (4) _ _ _ _ B9.nd rfl (by trivial) (@Oz _ _ _ _ _ _ _ _ _ _ _ _ _ _ c_Ledger___init__ (List.Mem.head _) er.m_Ledger hr (by decide) (by rfl) er.b_Ledger (@Aa _ _ _ _ _ (dv 1) Ac (by rfl)) (by decide) (by rfl) (by rfl)) (by rfl) (by trivial)) (@Ae _ _ _ _ _ (@Ar _ _ (5) _ _ _ _ B9.nd rfl (by trivial) (@Em _ _ _ _ Ac) (by rfl) (by trivial)) (@Ae _ _ _ _ _ (@Ar _ _ (6) _ _ _ _ B9.nd rfl (by trivial) (@Em _ _ _ _ (@Aa _ _ _ _ _ Ab Ac (by rfl))) (by rfl) (by trivial)) (@Ae _ _ _ _ _ (@Gk _ _ _ _ _ _ _ _ PassesOwn.never rfl (@E9 _ _ _ _ _ _ (by rfl) n_range (@Aa _ _ _ _ _ (@Am _ _ _ _ _ _ _ Cc (@F5 _ _ _ _ (@Aa _ _ _ _ _ (@Aj _ _ _ _ _ _ _ _ Bm (@An _ _ _ _ _ _ _ _ _ _ _ c_l_cell hr (by decide) (by rfl) (@Aa _ _ _ _ _ (dv 0) (@Aa _ _ _ _ _ Ab Ac (by rfl)) (by rfl)) (by decide) (by rfl) (by rfl)) Ab) (@Aa _ _ _ _ _ (@Aj _ _ _ _ _ _ _ _ Cl Ab (@Aj _ _ _ _ _ _ _ _ Bm (@An _ _ _ _ _ _ _ _ _ _ _ c_l_cell hr (by decide) (by rfl) (@Aa _ _ _ _ _ (dv 0) (@Aa _ _ _ _ _ Ab Ac (by rfl)) (by rfl)) (by decide) (by rfl) (by rfl)) Ab)) Ac (by rfl)) (by rfl))) (@Fd _ _ _ _ _ _ _ _ _ Yk (by rfl) n_int (by decide +kernel) (@Aa _ _ _ _ _ (dv 2) Ac (by rfl)) (by decide) (by decide) (by rfl) (by rfl)) (fun _ _=>rfl)) Ac (by rfl)) (by rfl)) (@Bb _ _ (7) _ B9.nd rfl (by trivial) (by trivial)) (@Ae _ _ _ _ _ (@Ar _ _ (8) _ _ _ _ B9.nd rfl (by trivial) (@Aj _ _ _ _ _ _ _ _ Dk (@Aj _ _ _ _ _ _ _ _ Bm (@An _ _ _ _ _ _ _ _ _ _ _ c_l_cell hr (by decide) (by rfl) (@Aa _ _ _ _ _ (dv 0) (@Aa _ _ _ _ _ (@Aj _ _ _ _ _ _ _ _ Cl Ab (@Aj _ _ _ _ _ _ _ _ Bm (dv 7) Ab)) Ac (by rfl)) (by rfl)) (by decide) (by rfl) (by rfl)) (@Aj _ _ _ _ _ _ _ _ X1 Ab Ab)) (@Aj _ _ _ _ _ _ _ _ Cl Ab (dv 7))) (by rfl) (by trivial)) (@Af _ _ _ (@Ct _ _ _ _ _ _ _ _ (@Cz _ _ _ _ (@Fk _ _ _ (@An _ _ _ _ _ _ _ _ _ _ _ c_l_put hr (by decide) (by rfl) (@Aa _ _ _ _ _ (dv 4) (@Aa _ _ _ _ _ (dv 5) (@Aa _ _ _ _ _ (dv 6) (@Aa _ _ _ _ _ (@An _ _ _ _ _ _ _ _ _ _ _ c_l_game hr (by decide) (by rfl) (@Aa _ _ _ _ _ (dv 8) (@Aa _ _ _ _ _ (@Cg _ _ _ _ _ _ _ _ _ _ J1 (dv 3) Fz (B5 (Aj Cl Ab (Aj Bm (Aj Dk (An c_l_cell hr (by decide) (by rfl) (Aa (dv 0) (Aa Ab Ac))) Ab) Ab)))) Ac (by rfl)) (by rfl)) (by decide) (by rfl) (by rfl)) Ac (by rfl)) (by rfl)) (by rfl)) (by rfl)) (by decide) (by rfl) (by rfl)) (by intro _;rfl))) (@Af _ _ _ (@At _ _ _ _ Gx)) A5))) (by intro _;rfl)) (@Ae _ _ _ _ _ (@Gk _ _ _ _ _ _ _ _ PassesOwn.never rfl (@E9 _ _ _ _ _ _ (by rfl) n_range (@Aa _ _ _ _ _ (@Aq _ _ _ _ _ _ _ _ _ (@Om _ rfl) (by rfl) n_min (by decide +kernel) (@Aa _ _ _ _ _ Ab (@Aa _ _ _ _ _ (@Aj _ _ _ _ _ _ _ _ Cl Ab (@Aj _ _ _ _ _ _ _ _ Dk (@Aq _ _ _ _ _ _ _ _ _ Cm (by rfl) n_len (by decide +kernel) (@Aa _ _ _ _ _ (dv 0) Ac (by rfl)) (by decide) (by decide) (by rfl) (by rfl)) Ab)) Ac (by rfl)) (by rfl)) (by decide) (by decide) (by rfl) (by rfl)) Ac (by rfl)) (by rfl)) (@Bb _ _ (7) _ B9.nd rfl (by trivial) (by trivial)) (@Dc _ _ _ _ _ (@Ar _ _ (8) _ _ _ _ B9.nd rfl (by trivial) (@Aj _ _ _ _ _ _ _ _ Bm (@An _ _ _ _ _ _ _ _ _ _ _ c_l_cell hr (by decide) (by rfl) (@Aa _ _ _ _ _ (dv 0) (@Aa _ _ _ _ _ (@Aj _ _ _ _ _ _ _ _ Cl Ab (dv 7)) Ac (by rfl)) (by rfl)) (by decide) (by rfl) (by rfl)) (@Aj _ _ _ _ _ _ _ _ X1 Ab Ab)) (by rfl) (by trivial)) (@Ae _ _ _ _ _ (@Ar _ _ (9) _ _ _ _ B9.nd rfl (by trivial) (@Em _ _ _ _ (@Aa _ _ _ _ _ (@Dg _ _ _ _ _ _ _ _ _ (dv 4) (@B8 _ _ _ _ _ _ _ _ _ _ _ _ _ _ c_Ledger_games (List.Mem.head _) er.l_Ledger (by decide) Cv) hr (by rfl)) (@Aa _ _ _ _ _ (@Dg _ _ _ _ _ _ _ _ _ (dv 4) (@B8 _ _ _ _ _ _ _ _ _ _ _ _ _ _ c_Ledger_worths (List.Mem.head _) er.l_Ledger (by decide) Cv) hr (by rfl)) (@Aa _ _ _ _ _ (@Aq _ _ _ _ _ _ _ _ _ Cm (by rfl) n_len (by decide +kernel) (@Aa _ _ _ _ _ (dv 5) Ac (by rfl)) (by decide) (by decide) (by rfl) (by rfl)) (@Aa _ _ _ _ _ (@Am _ _ _ _ _ _ _ Cc (dv 6) Ab (fun _ _=>rfl)) Ac (by rfl)) (by rfl)) (by rfl)) (by rfl))) (by rfl) (by trivial)) (@Ae _ _ _ _ _ (@Ar _ _ (10) _ _ _ _ B9.nd rfl (by trivial) Gx (by rfl) (by trivial)) (@Dc _ _ _ _ _ (@Ct _ _ _ _ _ _ _ _ (@Bw _ _ _ _ _ _ _ _ G4 (@Aj _ _ _ _ _ _ _ _ Bm (dv 8) Ab) Ab (@A1 _ _ (by decide) (by decide))) (@Af _ _ _ (@Ar _ _ (10) _ _ _ _ B9.nd rfl (by trivial) (@An _ _ _ _ _ _ _ _ _ _ _ c_l_put hr (by decide) (by rfl) (@Aa _ _ _ _ _ (dv 4) (@Aa _ _ _ _ _ (dv 5) (@Aa _ _ _ _ _ (dv 6) (@Aa _ _ _ _ _ (@An _ _ _ _ _ _ _ _ _ _ _ c_l_game hr (by decide) (by rfl) (@Aa _ _ _ _ _ (@Aj _ _ _ _ _ _ _ _ Dk (dv 8) Ab) (@Aa _ _ _ _ _ (dv 3) Ac (by rfl)) (by rfl)) (by decide) (by rfl) (by rfl)) Ac (by rfl)) (by rfl)) (by rfl)) (by rfl)) (by decide) (by rfl) (by rfl)) (by rfl) (by trivial))) (@Af _ _ _ (@Ct _ _ _ _ _ _ _ _ (@Bw _ _ _ _ _ _ _ _ G4 (@Aj _ _ _ _ _ _ _ _ Bm (dv 8) Ab) Ab (@A1 _ _ (by decide) (by decide))) (@Af _ _ _ (@Ar _ _ (10) _ _ _ _ B9.nd rfl (by trivial) (@An _ _ _ _ _ _ _ _ _ _ _ c_l_take hr (by decide) (by rfl) (@Aa _ _ _ _ _ (dv 4) (@Aa _ _ _ _ _ (dv 5) (@Aa _ _ _ _ _ (dv 6) (@Aa _ _ _ _ _ (@Aj _ _ _ _ _ _ _ _ Dk (dv 8) Ab) Ac (by rfl)) (by rfl)) (by rfl)) (by rfl)) (by decide) (by rfl) (by rfl)) (by rfl) (by trivial))) (@Af _ _ _ (@Ar _ _ (10) _ _ _ _ B9.nd rfl (by trivial) (@An _ _ _ _ _ _ _ _ _ _ _ c_l_worth hr (by decide) (by rfl) (@Aa _ _ _ _ _ (dv 4) (@Aa _ _ _ _ _ (dv 5) (@Aa _ _ _ _ _ (@Am _ _ _ _ _ _ _ Cc (dv 3) (@Aj _ _ _ _ _ _ _ _ Bm (@Aj _ _ _ _ _ _ _ _ Dk (dv 8) Ab) (@Aq _ _ _ _ _ _ _ _ _ Cm (by rfl) n_len (by decide +kernel) (@Aa _ _ _ _ _ (dv 3) Ac (by rfl)) (by decide) (by decide) (by rfl) (by rfl))) (fun _ _=>rfl)) Ac (by rfl)) (by rfl)) (by rfl)) (by decide) (by rfl) (by rfl)) (by rfl) (by trivial)))))) (@Ae _ _ _ _ _ (@Ct _ _ _ _ _ _ _ _ (@Cz _ _ _ _ (@Fk _ _ _ (dv 10) (by intro _;rfl))) (@Af _ _ _ (@At _ _ _ _ Gx)) A5) (@Af _ _ _ (@Ct _ _ _ _ _ _ _ _ (@L2.PW.pt _ _ _ (@Aih _ _ _ _ _ _ _ (@Bw _ _ _ _ _ _ _ _ (@Iv _ hr.units) (@Cg _ _ _ _ _ _ _ _ _ _ J1 (dv 9) (B5 Ab) Fz) (@F5 _ _ _ _ (@Aa _ _ _ _ _ (@Aq _ _ _ _ _ _ _ _ _ Cm (by rfl) n_len (by decide +kernel) (@Aa _ _ _ _ _ (dv 5) Ac (by rfl)) (by decide) (by decide) (by rfl) (by rfl)) (@Aa _ _ _ _ _ (@Am _ _ _ _ _ _ _ Cc (dv 6) Ab (fun _ _=>rfl)) Ac (by rfl)) (by rfl))) (@A1 _ _ (by decide) (by decide))) (@Abm _ _ _ _ (@Bw _ _ _ _ _ _ _ _ (@Adw _ hr.units) (@F5 _ _ _ _ (@Aa _ _ _ _ _ (@Dg _ _ _ _ _ _ _ _ _ (dv 4) (@B8 _ _ _ _ _ _ _ _ _ _ _ _ _ _ c_Ledger_games (List.Mem.head _) er.l_Ledger (by decide) Cv) hr (by rfl)) (@Aa _ _ _ _ _ (@Dg _ _ _ _ _ _ _ _ _ (dv 4) (@B8 _ _ _ _ _ _ _ _ _ _ _ _ _ _ c_Ledger_worths (List.Mem.head _) er.l_Ledger (by decide) Cv) hr (by rfl)) Ac (by rfl)) (by rfl))) (@Cg _ _ _ _ _ _ _ _ _ _ J1 (dv 9) Fz (B5 Ab)) (@A1 _ _ (by decide) (by decide)))))) (@Af _ _ _ (@At _ _ _ _ Gx)) A5))))))) (by intro _;rfl)) (@Dc _ _ _ _ _ (@Ct _ _ _ _ _ _ _ _ (@Bw _ _ _ _ _ _ _ _ G4 (@Aq _ _ _ _ _ _ _ _ _ Cm (by rfl) n_len (by decide +kernel) (@Aa _ _ _ _ _ (dv 5) Ac (by rfl)) (by decide) (by decide) (by rfl) (by rfl)) Ab (@A1 _ _ (by decide) (by decide))) (@Ae _ _ _ _ _ (@Ar _ _ (11) _ _ _ _ B9.nd rfl (by trivial) (@Am _ _ _ _ _ _ _ Au (@Am _ _ _ _ _ _ _ Cc (dv 5) Ab (fun _ _=>rfl)) Ab (fun _ _=>rfl)) (by rfl) (by trivial)) (@Ae _ _ _ _ _ (@Ct _ _ _ _ _ _ _ _ (@Cz _ _ _ _ (@Fk _ _ _ (@An _ _ _ _ _ _ _ _ _ _ _ c_l_put hr (by decide) (by rfl) (@Aa _ _ _ _ _ (dv 4) (@Aa _ _ _ _ _ (dv 5) (@Aa _ _ _ _ _ (dv 6) (@Aa _ _ _ _ _ (dv 11) Ac (by rfl)) (by rfl)) (by rfl)) (by rfl)) (by decide) (by rfl) (by rfl)) (by intro _;rfl))) (@Af _ _ _ (@At _ _ _ _ Gx)) A5) (@Ae _ _ _ _ _ (@Ci _ _ _ _ (@O7 _ _ _ _ _ _ _ _ _ _ _ _ (dv 4) (@B8 _ _ _ _ _ _ _ _ _ _ _ _ _ _ c_Ledger_take (List.Mem.head _) er.l_Ledger (by decide) Cv) hr (@Aa _ _ _ _ _ (@Am _ _ _ _ _ _ _ Au (@Am _ _ _ _ _ _ _ Cc (dv 5) Ab (fun _ _=>rfl)) Ab (fun _ _=>rfl)) Ac (by rfl)) (by rfl) (by rfl) (by rfl)) (by rfl)) (@Ae _ _ _ _ _ (@Ci _ _ _ _ (@Kz _ _ _ _ _ _ _ _ _ _ _ _ PySem.F.plainAttrs_list PySem.F.slot_list_pop PySem.F.type_list_pop Sj (dv 5) (@Aa _ _ _ _ _ Ab Ac (by rfl)) (by rfl) (by rfl) (by rfl) (by rfl) (by rfl)) (by rfl)) (@Af _ _ _ (@Ct _ _ _ _ _ _ _ _ (@Cz _ _ _ _ (@Fk _ _ _ (@An _ _ _ _ _ _ _ _ _ _ _ c_l_put hr (by decide) (by rfl) (@Aa _ _ _ _ _ (dv 4) (@Aa _ _ _ _ _ (dv 5) (@Aa _ _ _ _ _ (dv 6) (@Aa _ _ _ _ _ (dv 11) Ac (by rfl)) (by rfl)) (by rfl)) (by rfl)) (by decide) (by rfl) (by rfl)) (by intro _;rfl))) (@Af _ _ _ (@At _ _ _ _ Gx)) A5)))))) A5) (@Af _ _ _ (@At _ _ _ _ (@Bo _ _ _ _ _ _ _ _ (@Iv _ hr.units) (@An _ _ _ _ _ _ _ _ _ _ _ c_l_asked hr (by decide) (by rfl) (@Aa _ _ _ _ _ (@Oz _ _ _ _ _ _ _ _ _ _ _ _ _ _ c_Ledger___init__ (List.Mem.head _) er.m_Ledger hr (by decide) (by rfl) er.b_Ledger (@Aa _ _ _ _ _ (dv 1) Ac (by rfl)) (by decide) (by rfl) (by rfl)) (@Aa _ _ _ _ _ C4 (@Aa _ _ _ _ _ (@Am _ _ _ _ _ _ _ Cc (dv 3) Ab (fun _ _=>rfl)) Ac (by rfl)) (by rfl)) (by rfl)) (by decide) (by rfl) (by rfl)) (@An _ _ _ _ _ _ _ _ _ _ _ c_l_refusal hr (by decide) (by rfl) (@Aa _ _ _ _ _ Ab Ac (by rfl)) (by decide) (by rfl) (by rfl)) (@A1 _ _ (by decide) (by decide)))))))))))))),?_⟩
   have tk0:Ay H (Bi K) Bv Fl:=⟨#[],hT,trivial,.inl rfl⟩
   refine ⟨hS,⟨by decide,by decide,hb⟩,fun c1=>⟨(by show (0:Int)<41;decide),hS,⟨by decide,by decide,hb⟩,fun c2=>⟨⟨by decide,Ax rfl⟩,(by show (0:Int)<3000;decide),?_⟩⟩⟩
   have p0:=Int.emod_nonneg c1 (show (41:Int)≠0 by decide)
   have p1:=Int.emod_lt_of_pos c1 (show (0:Int)<41 by decide)
   have q0:=Int.emod_nonneg (c2 / 41) (show (3000:Int)≠0 by decide)
   have q1:=Int.emod_lt_of_pos (c2 / 41) (show (0:Int)<3000 by decide)
   refine fun T1 H1 s1 e1=>fun T2 H2 s2 e2=>fun T3 H3 s3 e3=>fun T4 H4 s4 e4=>fun P H5 s5 e5=>?_
   intro x dx hx hd ne
   have s6:=Lh (C:=c_Rule) hx hd ne
   have e6:upd (upd H5 dx (.own x)) x (.ins c_Rule dx []) x=some (.ins c_Rule dx []):=Ad
   generalize upd (upd H5 dx (.own x)) x (.ins c_Rule dx [])=H6 at s6 e6
   have s46:=s5.trans s6
   have s26:=s3.trans (s4.trans s46)
   have a6:Aw (Es H6) [.ref T2,.ref T4] [(0,1,2),(100,2,3)]:=.cons ⟨T2,T1,rfl,s26 _ _ e2,s2.trans s26 _ _ e1⟩ (.cons ⟨T4,T3,rfl,s46 _ _ e4,s4.trans s46 _ _ e3⟩ .nil)
   refine ⟨_,dx,[],_,_,⟨e6,er.l_Rule,er.na_Rule_step,er.na_Rule_first,er.na_Rule_table,by decide,s6 _ _ e5,a6,Vw⟩,fun Tb' H7 s7 nT n7 eT7 ex7=>⟨rfl,?_⟩⟩
   have kt7:=s7.kt e6
   have a7:Aw (Es H7) [.ref T2,.ref T4] [(0,1,2),(100,2,3)]:=a6.imp fun v g r=>Dv v g _ _ kt7 r
   have s57:Ai H5 H7:=fun b o e=>s7 b o (fun z=>by rw [z,hx] at e;cases e) (s6 b o e)
   have s07:Ai H H7:=s1.trans (s2.trans (s3.trans (s4.trans (s5.trans s57))))
   generalize c1 % 41=st at p0 p1 ex7
   generalize c2 / 41 % 3000=fi at q0 q1 ex7
   have f7:=fd0 (st:=st) (fi:=fi) (T:=Tb') (fs:=[]) rfl
   have hR7:Ni K H7 x 0 st fi 0 0 [(0,1,2),(100,2,3)]:=⟨_,dx,_,Tb',ex7,⟨rfl,er.y_Rule⟩,f7,_,eT7,a7⟩
   have tb:=Wh Vw
   have b:Nb st 0 0:=⟨p0,by omega,by decide,by decide,by decide,by decide⟩
   have bf:Bd 40 fi:=Dd (b:=1000001) (by omega) (by omega) (Ax rfl)
   clear s1 s2 s3 s4 s5 e1 e2 e3 e4 e5 s6 e6 a6 s26 s46 kt7 s7 s57 hx hd n7 nT ex7 eT7 a7 f7
   refine ⟨s07.seq hS,⟨by decide,by decide,hb⟩,fun c3=>⟨(by show (0:Int)<2;decide),?_⟩⟩
   have cr:∃cr:Bool,decide (c3 % 2=1)=cr:=⟨_,rfl⟩
   obtain ⟨cr,hcr⟩:=cr
   refine ⟨fun σ H'=>∃(NL:Addr) (nm:List Str),σ=[some (.ref a),some (.ref x),some (.bl cr),some (.ref NL),none,none,none,none,none,none,none,none]∧Ai H7 H'∧H' NL=some (.lst (nm.map V.str))∧8≤nm.length∧nm.length≤9∧nm.Nodup∧∀x∈nm,PyData.strOk x=true,?_,?_⟩
   ·rw [hcr]
    refine ⟨s07.seq hS,⟨by decide,by decide,hb⟩,fun c4=>fun P2 H2 s2 e2=>⟨_,.int (if cr then 8 else 9),A0.of e2,(by cases cr<;>rfl),⟨by cases cr<;>decide,by cases cr<;>decide⟩,fun NL nm H3 s3 e3 l3 nd sok=>⟨NL,nm,rfl,s2.trans s3,e3,?_,?_,nd,sok⟩⟩⟩
    ·cases cr
     ·have:(nm.length:Int)=9:=l3
      omega
     ·have:(nm.length:Int)=8:=l3
      omega
    ·cases cr
     ·have:(nm.length:Int)=9:=l3
      omega
     ·have:(nm.length:Int)=8:=l3
      omega
   rintro σ H8 ⟨NL,nm,rfl,s8,eN,n8,n9,nd,sok⟩
   have s08:=s07.trans s8
   have tk8:=tk0.up s08
   obtain ⟨ps8,tt8,_⟩:=id tk8
   have hR8:=hR7.up s8
   clear s07 s8 hR7 hcr
   intro L dxl hL hdl nel
   have s10:=Lh (C:=c_Ledger) hL hdl nel
   have e10:upd (upd H8 dxl (.own L)) L (.ins c_Ledger dxl []) L=some (.ins c_Ledger dxl []):=Ad
   generalize upd (upd H8 dxl (.own L)) L (.ins c_Ledger dxl [])=H10 at s10 e10
   refine ⟨_,dxl,0,st,fi,0,0,_,⟨e10,er.y_Ledger,hR8.up s10,Vw⟩,fun A R H11 s11 nA nAL nR lg11 hR11=>⟨rfl,by decide,fun KL hKL=>?_⟩⟩
   have nRL:R≠L:=fun z=>by rw [z,e10] at nR;cases nR
   have s811:Ai H8 H11:=fun b o e=>s11 b o (fun z=>by rw [z,hL] at e;cases e) (s10 b o e)
   have hA8:H8 A=none:=Bt s10 nA
   have s12:Ai H11 (upd H11 KL (.lst [])):=Al hKL
   have e12:upd H11 KL (.lst []) KL=some (.lst []):=Ad
   generalize upd H11 KL (.lst [])=H12 at s12 e12
   refine ⟨by decide,fun S hSt=>?_⟩
   have s13:Ai H12 (upd H12 S (.lst [.int 0])):=Al hSt
   have e13:upd H12 S (.lst [.int 0]) S=some (.lst [.int 0]):=Ad
   generalize upd H12 S (.lst [.int 0])=H13 at s13 e13
   have neKS:KL≠S:=fun z=>by rw [←z,e12] at hSt;cases hSt
   have s1113:=s12.trans s13
   have s813:=s811.trans s1113
   have lg13:=lg11.up s1113
   have tk13:=tk8.up s813
   have hKL8:H8 KL=none:=Bt s811 hKL
   have hS8:H8 S=none:=Bt (s811.trans s12) hSt
   have eK13:=s13 _ _ e12
   obtain ⟨CL,dxL,fsL,eL13,_,_,kvA,eA13,_⟩:=id lg13
   obtain ⟨ps,tt,_⟩:=id tk13
   have hR13:=hR11.up s1113
   obtain ⟨N,hN⟩:∃N,N=Pk [L,A,Bi K,KL,S] H13:=⟨_,rfl⟩
   have no:Non K N L A KL S:=by
    rw [hN]
    exact ⟨B7 (by simp),B7 (by simp),B7 (by simp),B7 (by simp),B7 (by simp),neKS⟩
   have sN13:Ai N H13:=by
    rw [hN]
    exact Op
   have sO:Ai (Er (Bi K) H8) N:=fun b o e=>by
    rw [hN]
    refine Dy (fun z=>?_) (s813 b o (E8 b o e))
    rcases List.mem_cons.mp z with z|z
    ·rw [z,Di hL] at e;cases e
    rcases List.mem_cons.mp z with z|z
    ·rw [z,Di hA8] at e;cases e
    rcases List.mem_cons.mp z with z|z
    ·rw [z,Zn] at e;cases e
    rcases List.mem_cons.mp z with z|z
    ·rw [z,Di hKL8] at e;cases e
    ·rw [List.mem_singleton.mp z,Di hS8] at e;cases e
   have hSN:A0 K N a (ns.map V.int):=sO.seq (Zy tt8 (s08.seq hS))
   have eNN:N NL=some (.lst (nm.map V.str)):=sO _ _ (J9 tt8 eN fun _=>nofun)
   have nxT:x≠Bi K:=fun z=>by
    obtain ⟨_,_,_,_,e,_⟩:=id hR8
    rw [z,tt8] at e
    cases e
   have hxN:Ni K N x 0 st fi 0 0 [(0,1,2),(100,2,3)]:=(Acp hR8 nxT ⟨fun zs z=>(by rw [tt8] at z;cases z),fun zs z=>(by rw [tt8] at z;cases z)⟩).up sO
   have hRN:Ni K N R 0 st fi 0 0 [(0,1,2),(100,2,3)]:=by
    rw [hN]
    refine Yx hR13 (by decide) (fun z=>?_) fun X hX=>?_
    ·obtain ⟨_,_,_,_,e,_⟩:=id hR13
     rcases List.mem_cons.mp z with z|z
     ·exact nRL z
     rcases List.mem_cons.mp z with z|z
     ·rw [z,eA13] at e;cases e
     rcases List.mem_cons.mp z with z|z
     ·rw [z,tt] at e;cases e
     rcases List.mem_cons.mp z with z|z
     ·rw [z,eK13] at e;cases e
     ·rw [List.mem_singleton.mp z,e13] at e;cases e
    ·rcases List.mem_cons.mp hX with z|hX
     ·rw [z,eL13]
      exact ⟨fun _=>nofun,fun _=>nofun⟩
     rcases List.mem_cons.mp hX with z|hX
     ·rw [z,eA13]
      exact ⟨fun _=>nofun,fun _=>nofun⟩
     rcases List.mem_cons.mp hX with z|hX
     ·rw [z,tt]
      exact ⟨fun _=>nofun,fun _=>nofun⟩
     rcases List.mem_cons.mp hX with z|hX
     ·rw [z,eK13]
      exact ⟨fun zs z=>⟨[],by cases z;rfl⟩,fun _=>nofun⟩
     ·rw [List.mem_singleton.mp hX,e13]
      exact ⟨fun zs z=>⟨[0],by cases z;rfl⟩,fun _=>nofun⟩
   have st0:Jl K N H13 L A R KL S nm [] 0 []:=⟨sN13,tk13,lg13,⟨.nil,fun e h=>by (cases h),fun e h=>by (cases h)⟩,by decide,by decide,fun e h=>by (cases h),eK13,.nil,e13⟩
   clear sO hN eL13 eA13 tt tt8 hR13 hR11 hR8 eK13 s813 s1113 s811 s10 e10 s11 nA nAL nR nRL lg11 lg13 tk13 tk8 s12 e12 s13 e13 hKL hSt hKL8 hS8 hA8 hL hdl sN13 eN s08
   have cls:∀{L A R:Addr} {H':Hp} {es':List En} {last':Int},Do K H' L A R es' last'→∃dx fs,H' L=some (.ins c_Ledger dx fs)∧LFd fs A R last':=fun h=>by
    obtain ⟨C,dx,fs,eL,hC,fd,_⟩:=h
    have hCc:=Bg hC er.y_Ledger
    subst hCc
    exact ⟨dx,fs,eL,fd⟩
   refine ⟨st0.sm.seq hSN,⟨by decide,by decide,hb⟩,fun c5=>⟨(by show (0:Int)<21;decide),st0.sm.seq hSN,⟨by decide,by decide,hb⟩,fun c6=>⟨(by show (0:Int)<3;decide),fun P14 H14 s14 e14=>⟨_,.int (if cr then 38+c6 % 3 else c5 % 21),A0.of e14,(by cases cr<;>rfl),?_⟩⟩⟩⟩
   have m0:0≤(if cr then 38+c6 % 3 else c5 % 21)∧(if cr then 38+c6 % 3 else c5 % 21)≤40:=by
    have z0:=Int.emod_nonneg c5 (show (21:Int)≠0 by decide)
    have z1:=Int.emod_lt_of_pos c5 (show (0:Int)<21 by decide)
    have z2:=Int.emod_nonneg c6 (show (3:Int)≠0 by decide)
    have z3:=Int.emod_lt_of_pos c6 (show (0:Int)<3 by decide)
    cases cr
    ·show 0≤c5 % 21∧c5 % 21≤40
     omega
    ·show 0≤38+c6 % 3∧38+c6 % 3≤40
     omega
   obtain ⟨m,hm⟩:∃m:Int,(if cr then 38+c6 % 3 else c5 % 21)=m:=⟨_,rfl⟩
   rw [hm] at m0 ⊢
   have st0:=st0.same s14
   refine ⟨m,rfl,by omega,by omega,J8 (lo:=0) (n:=m.toNat) (fun i σ H'=>∃(es:List En) (last:Int) (kv:List V) (o7 o8:Option V),σ=[some (.ref a),some (.ref x),some (.bl cr),some (.ref NL),some (.ref L),some (.ref KL),some (.ref S),o7,o8,none,none,none]∧Jl K N H' L A R KL S nm es last kv∧0≤last) ⟨_,_,_,none,none,rfl,st0,Int.le_refl _⟩ ?_ ?_⟩
   ·clear st0
    rintro i σ H2 hi ⟨es,last,kv,o7,o8,rfl,sa,la0⟩
    have n15:(0:Int)<10 ^ Int.toNat 15:=by decide
    have z0:=Int.emod_nonneg (0+(i:Int)) (show (30:Int)≠0 by decide)
    have z1:=Int.emod_lt_of_pos (0+(i:Int)) (show (0:Int)<30 by decide)
    have bi:Bd 4000 (1+(0+(i:Int))):=Dd (b:=100) (by omega) (by omega) (Ax rfl)
    refine ⟨(by show (0:Int)<30;decide),sa.sm.seq hSN,⟨by show 0≤4+(0+(i:Int)) % 30;omega,by show 4+(0+(i:Int)) % 30<1000;omega,hb⟩,fun c7=>⟨⟨by decide,by decide,by decide⟩,n15,⟨by show 0<1+(0+(i:Int));omega,bi⟩,?_⟩⟩
    refine ⟨sa.sm.seq hSN,⟨by decide,by decide,hb⟩,fun c8=>⟨⟨by decide,Ax rfl⟩,(by show (0:Int)<3;decide),_,rfl,_,A0.of (sa.sm _ _ eNN),fun P3 H3 s3 e3=>?_⟩⟩
    have w0:=Int.emod_nonneg (c8 / 2) (show (3:Int)≠0 by decide)
    have w1:=Int.emod_lt_of_pos (c8 / 2) (show (0:Int)<3 by decide)
    obtain ⟨j,hj⟩:∃j:Nat,6+c8 / 2 % 3=j:=⟨_,(Int.toNat_of_nonneg (by omega)).symm⟩
    have e3:H3 P3=some (.lst ((nm.take j).map V.str)):=by
     have e3:H3 P3=some (.lst (Dn (nm.map V.str) none (some (6+c8 / 2 % 3)))):=e3
     rw [hj,Ui (by rw [List.length_map];omega),←List.map_take] at e3
     exact e3
    have lj:(nm.take j).length=j:=by rw [List.length_take];omega
    refine ⟨nm.take j,⟨e3,by omega,by omega,nd.sublist (List.take_sublist ..)⟩,fun v g H4 s4 hg ga gb ne h0 h2=>?_⟩
    refine ⟨N,A,R,nm,es,last,kv,g,⟨sa.same (s3.trans s4),no,n9,hg,List.mem_of_mem_take ga,List.mem_of_mem_take gb,ne,h0,h2⟩,fun H5 es' last' kv' sa' le' _=>⟨fun h=>nb h,fun _=>⟨es',last',kv',_,_,rfl,sa',by omega⟩⟩⟩
   clear st0
   rintro σ H15 ⟨es0,last0,kv0,o7,o8,rfl,sa0,la0⟩
   refine ⟨_,.inl (sa0.sm.seq hSN),⟨by decide,Ax rfl⟩,24,_,rfl,?_⟩
   obtain ⟨M,hM⟩:∃M:Int,M=if 8+((ns.map V.int).length:Int) / 2<24 then 8+((ns.map V.int).length:Int) / 2 else 24:=⟨_,rfl⟩
   have M0:0≤M∧M≤24:=by
    rw [hM]
    split<;>omega
   refine ⟨M,congrArg (fun z=>[V.int z]) hM.symm,by omega,by omega,J8 (lo:=0) (n:=M.toNat) (fun i σ H'=>∃(es:List En) (last:Int) (kv:List V) (o7 o8 o9 o10:Option V),σ=[some (.ref a),some (.ref x),some (.bl cr),some (.ref NL),some (.ref L),some (.ref KL),some (.ref S),o7,o8,o9,o10,none]∧Jl K N H' L A R KL S nm es last kv∧0≤last) ⟨_,_,_,_,_,none,none,rfl,sa0,la0⟩ ?_ ?_⟩
   ·clear sa0 la0 hM
    rintro i σ H2 hi ⟨es,last,kv,o7,o8,o9,o10,rfl,sa,la0⟩
    have n15:(0:Int)<10 ^ Int.toNat 15:=by decide
    refine ⟨fun σ H'=>∃cc:Int,σ=[some (.ref a),some (.ref x),some (.bl cr),some (.ref NL),some (.ref L),some (.ref KL),some (.ref S),some (.int (0+(i:Int))),some (.int cc),o9,o10,none]∧H'=H2,⟨sa.sm.seq hSN,⟨by omega,by omega,hb⟩,fun c7=>⟨⟨by decide,by decide,by decide⟩,n15,_,rfl,rfl⟩⟩,?_⟩
    rintro σ H' ⟨cc,rfl,rfl⟩
    obtain ⟨dx1,fs1,eL1,fd1⟩:=cls sa.lg
    refine ⟨L,_,dx1,fs1,_,rfl,eL1,.head _,fd1.ga,A,R,es,last,⟨sa.lg,sa.le,sa.tk⟩,fun B bv H3 p3 sm3 nB eB tk3 stb3 aB=>?_⟩
    have sa3:=sa.up sm3 tk3 no.t
    obtain ⟨dx2,fs2,eL2,fd2⟩:=cls sa3.lg
    refine ⟨L,_,dx2,fs2,_,rfl,eL2,.head _,fd2.ws,A,R,es,last,0,st,fi,0,0,_,⟨sa3.lg,Ud hRN no.t sa3.sm,tb,b,bf,sa3.le,sa3.gk,sa3.tk,sa3.pl⟩,fun W wv H4 p4 sm4 nW eW tk4 stb4 aW=>?_⟩
    have sa4:=sa3.up sm4 tk4 no.t
    obtain ⟨kl4,kt4⟩:=Lj sm4 tk3
    have eB4:=kl4 _ _ eB
    have aB4:=aB.imp fun v g r=>Dj v g _ _ kt4 r
    refine ⟨_,.inl (A0.of sa4.ek),_,.int last,A0.of sa4.es,rfl,(by show 4≤sizeLine;decide),fun Ah hAh=>?_⟩
    have s5:Ai H4 (upd H4 Ah (.lst [.ref B,.ref W,.int (kv.length:Int),.int last])):=Al hAh
    have e5:upd H4 Ah (.lst [.ref B,.ref W,.int (kv.length:Int),.int last]) Ah=some (.lst [.ref B,.ref W,.int (kv.length:Int),.int last]):=Ad
    generalize upd H4 Ah (.lst [.ref B,.ref W,.int (kv.length:Int),.int last])=H5 at s5 e5
    have sa5:=sa4.same s5
    have nBK:B≠KL:=fun z=>by rw [z,sa.ek] at nB;cases nB
    have nBS:B≠S:=fun z=>by rw [z,sa.es] at nB;cases nB
    have nWK:W≠KL:=fun z=>by rw [z,sa3.ek] at nW;cases nW
    have nWS:W≠S:=fun z=>by rw [z,sa3.es] at nW;cases nW
    have nAK:Ah≠KL:=fun z=>by rw [z,sa4.ek] at hAh;cases hAh
    have nAS:Ah≠S:=fun z=>by rw [z,sa4.es] at hAh;cases hAh
    have eB5:=s5 _ _ eB4
    have eW5:=s5 _ _ eW
    have aB5:=aB4.imp fun v g r=>Dj v g _ _ (A6 s5) r
    have aW5:=aW.imp fun v g r=>Sf v g _ _ (A6 s5) r
    obtain ⟨N',sg,no',sNN,keep⟩:=sa5.grow no
    obtain ⟨_,_,_,eL5,_,_,_,eA5,_⟩:=id sa5.lg
    obtain ⟨_,tt5,_⟩:=id sa5.tk
    have kL:∀{X:Addr} {xs:List V},X≠KL→X≠S→H5 X=some (.lst xs)→N' X=some (.lst xs):=fun {X xs} n1 n2 e=>keep _ _ (fun z=>by
     rcases List.mem_cons.mp z with z|z
     ·rw [z,eL5] at e;cases e
     rcases List.mem_cons.mp z with z|z
     ·rw [z,eA5] at e;cases e
     rcases List.mem_cons.mp z with z|z
     ·rw [z,tt5] at e;cases e
     rcases List.mem_cons.mp z with z|z
     ·exact n1 z
     ·exact n2 (List.mem_singleton.mp z)) e
    have ktN:Kt H5 N':=fun p xs e=>keep _ _ (fun z=>by
     rcases List.mem_cons.mp z with z|z
     ·rw [z,eL5] at e;cases e
     rcases List.mem_cons.mp z with z|z
     ·rw [z,eA5] at e;cases e
     rcases List.mem_cons.mp z with z|z
     ·rw [z,tt5] at e;cases e
     rcases List.mem_cons.mp z with z|z
     ·rw [z,sa5.ek] at e;cases e
     ·rw [List.mem_singleton.mp z,sa5.es] at e;cases e) e
    have eBN:=kL nBK nBS eB5
    have eWN:=kL nWK nWS eW5
    have eAN:=kL nAK nAS e5
    have aBN:=aB5.imp fun v g r=>Dj v g _ _ ktN r
    have aWN:=aW5.imp fun v g r=>Sf v g _ _ ktN r
    have eNN':=sNN _ _ eNN
    have hRN':=hRN.up sNN
    have lk:=sa.ak.len
    clear sa3 sa4 sa5 tk3 tk4 sm3 sm4 nB nW eB eB4 aB aB4 eW eW5 aW aB5 aW5 eB5 e5 s5 hAh kL keep ktN eL1 fd1 eL2 fd2 eL5 eA5 tt5 kl4 kt4 sa
    refine ⟨fun σ H'=>∃(es':List En) (last':Int) (kv':List V),σ=[some (.ref a),some (.ref x),some (.bl cr),some (.ref NL),some (.ref L),some (.ref KL),some (.ref S),some (.int (0+(i:Int))),some (.int cc),some (.ref Ah),some (.bl true),none]∧Jl K N' H' L A R KL S nm es' last' kv'∧0≤last'∧(es'.length=es.length→es'=es∧last'=last),?_,?_⟩
    ·refine ⟨(by show (0:Int)<3;decide),⟨fun _=>?_,fun _=>⟨(by show (0:Int)<3;decide),⟨fun _=>?_,fun _=>?_⟩⟩⟩⟩
     ·refine ⟨⟨by decide,Ax rfl⟩,nm,⟨sg.sm _ _ eNN',by omega,n9,nd⟩,fun v g H6 s6 hg ga gb ne h0 h2=>⟨N',A,R,nm,es,last,kv,g,⟨sg.same s6,no',n9,hg,ga,gb,ne,h0,h2⟩,fun H7 es' last' kv' sa' le' imp=>⟨es',last',kv',rfl,sa',by omega,imp⟩⟩⟩
     ·exact ⟨⟨by decide,Ax rfl⟩,N',A,R,nm,es,last,kv,⟨sg,no',la0⟩,fun H7 es' kv' sa' imp=>⟨es',last,kv',rfl,sa',la0,fun h=>⟨imp h,rfl⟩⟩⟩
     ·have lnm:((nm.map V.str).length:Int)=nm.length:=by rw [List.length_map]
      refine ⟨⟨by decide,Ax rfl⟩,_,.inl (A0.of (sg.sm _ _ eNN')),by rw [lnm];omega,?_⟩
      have u0:=Int.emod_nonneg (cc / 3) (show (nm.length:Int)≠0 by omega)
      have u1:=Int.emod_lt_of_pos (cc / 3) (show 0<(nm.length:Int) by omega)
      obtain ⟨u,hu⟩:∃u:Nat,cc / 3 % (nm.length:Int)=u:=⟨_,(Int.toNat_of_nonneg u0).symm⟩
      have ul:u<nm.length:=by omega
      refine ⟨_,.str nm[u],A0.of (sg.sm _ _ eNN'),(by show Qt _ (cc / 3 % ((nm.map V.str).length:Int))=_;rw [lnm,hu];exact Cn (by rw [List.getElem?_map,List.getElem?_eq_getElem ul];rfl)),?_⟩
      exact ⟨N',A,R,S,nm,es,last,kv,0,st,fi,0,0,_,⟨sg,no'.t,hRN',tb,b,bf⟩,fun H7 sa'=>⟨es,last,kv,rfl,sa',la0,fun _=>⟨rfl,rfl⟩⟩⟩
    clear sg
    rintro σ H6 ⟨es',last',kv',rfl,sg,la1,imp⟩
    refine ⟨fun h=>nb h,fun _=>?_⟩
    have lk':=sg.ak.len
    have inv:∀{H':Hp},Jl K N' H' L A R KL S nm es' last' kv'→∃(es:List En) (last:Int) (kv:List V) (o7 o8 o9 o10:Option V),[some (V.ref a),some (.ref x),some (.bl cr),some (.ref NL),some (.ref L),some (.ref KL),some (.ref S),some (.int (0+(i:Int))),some (.int cc),some (.ref Ah),some (.bl true),none]=[some (.ref a),some (.ref x),some (.bl cr),some (.ref NL),some (.ref L),some (.ref KL),some (.ref S),o7,o8,o9,o10,none]∧Jl K N H' L A R KL S nm es last kv∧0≤last:=fun s=>⟨es',last',kv',_,_,_,_,rfl,s.low sNN,la1⟩
    refine ⟨_,rfl,_,A0.of (sg.sm _ _ eAN),fun P7 H7 s7 e7=>⟨_,.inl (A0.of (s7 _ _ sg.ek)),_,.int last',A0.of (s7 _ _ sg.es),rfl,fun P8 H8 s8 e8=>?_⟩⟩
    have e7:H7 P7=some (.lst [.int (kv.length:Int),.int last]):=e7
    have s68:=s7.trans s8
    have sg8:=sg.same s68
    refine ⟨_,_,.lst (A0.of (s8 _ _ e7)) (.cons (.int _) (.cons (.int _) .nil)),.lst (A0.of e8) (.cons (.int _) (.cons (.int _) .nil)),rfl,rfl,⟨fun h=>?_,fun _=>⟨fun h=>nb h,fun _=>inv sg8⟩⟩⟩
    have hk:kv'.length=kv.length:=by
     have h:(PyData.eqv (.int (kv.length:Int)) (.int (kv'.length:Int))&&(PyData.eqv (.int last) (.int last')&&true))=true:=h
     rw [Bool.and_eq_true] at h
     have:PyData.eqv (.int (kv.length:Int)) (.int (kv'.length:Int))=true:=h.1
     have:(kv.length:Int)=(kv'.length:Int):=by simpa [PyData.eqv] using this
     omega
    obtain ⟨ee,el⟩:=imp (by omega)
    subst ee
    subst el
    obtain ⟨dx1,fs1,eL1,fd1⟩:=cls sg8.lg
    refine ⟨L,_,dx1,fs1,_,rfl,eL1,.head _,fd1.ga,A,R,_,_,⟨sg8.lg,sg8.le,sg8.tk⟩,fun B2 bv2 H9 p9 sm9 nB2 eB2 tk9 stb9 aB2=>?_⟩
    have sg9:=sg8.up sm9 tk9 no'.t
    obtain ⟨dx2,fs2,eL2,fd2⟩:=cls sg9.lg
    refine ⟨L,_,dx2,fs2,_,rfl,eL2,.head _,fd2.ws,A,R,_,_,0,st,fi,0,0,_,⟨sg9.lg,Ud hRN' no'.t sg9.sm,tb,b,bf,sg9.le,sg9.gk,sg9.tk,sg9.pl⟩,fun W2 wv2 H10 p10 sm10 nW2 eW2 tk10 stb10 aW2=>?_⟩
    have sg10:=sg9.up sm10 tk10 no'.t
    obtain ⟨kl10,kt10⟩:=Lj sm10 tk9
    refine fun P11 H11 s11 e11=>⟨_,rfl,_,A0.of ((sg10.sm.trans s11) _ _ eAN),fun P12 H12 s12 e12=>?_⟩
    have e12:H12 P12=some (.lst [.ref B,.ref W]):=e12
    have s1012:=s11.trans s12
    have sg12:=sg10.same s1012
    have kt1:Kt H9 H12:=kt10.trans (A6 s1012)
    rw [Mz stb9 stb3] at aB2
    rw [Mz stb10 stb4] at aW2
    have okS:∀e∈es',PyData.strOk e.2.a=true∧PyData.strOk e.2.b=true:=fun e he=>⟨sok _ (sg12.ok.mem e he).1,sok _ (sg12.ok.mem e he).2⟩
    have shG:SeqAt.shaped (.list ((pg (es'.map (·.2)) p3).map gd))=true:=Af8 fun g hg=>by
     obtain ⟨e,he,rfl⟩:=List.mem_map.mp (Jt hg)
     exact okS e he
    have shW:SeqAt.shaped (.list (((C7 (es'.map (·.2))).map fun x=>(x,wq fi (Jm 0 st fi 0 0 [(0,1,2),(100,2,3)] (fun _=>none) (pg (es'.map (·.2)) p4) x))).map Vb))=true:=Ai1 fun s hs=>by
     obtain ⟨x,hx,rfl⟩:=List.mem_map.mp hs
     refine sok x (Vj (fun g hg=>?_) hx)
     obtain ⟨e,he,rfl⟩:=List.mem_map.mp hg
     exact sg12.ok.mem e he
    have d1:(PyData.list ((pg (es'.map (·.2)) p3).map gd)).depth≤3:=by
     have:=Uc (pg (es'.map (·.2)) p3)
     show PyData.depthAll _+1≤3
     omega
    have d2:(PyData.list (((C7 (es'.map (·.2))).map fun x=>(x,wq fi (Jm 0 st fi 0 0 [(0,1,2),(100,2,3)] (fun _=>none) (pg (es'.map (·.2)) p4) x))).map Vb)).depth≤3:=by
     have:=Aan ((C7 (es'.map (·.2))).map fun x=>(x,wq fi (Jm 0 st fi 0 0 [(0,1,2),(100,2,3)] (fun _=>none) (pg (es'.map (·.2)) p4) x)))
     show PyData.depthAll _+1≤3
     omega
    have sh:=Ae7 shG shW d1 d2
    have s12N:=sg12.sm
    refine ⟨_,_,Yc (s12 _ _ e11) (s1012 _ _ (kl10 _ _ eB2)) (aB2.imp fun v g r=>Dj v g _ _ kt1 r) (s1012 _ _ eW2) (aW2.imp fun v g r=>Sf v g _ _ (A6 s1012) r),Yc e12 (s12N _ _ eBN) (aBN.imp fun v g r=>Dj v g _ _ (A6 s12N) r) (s12N _ _ eWN) (aWN.imp fun v g r=>Sf v g _ _ (A6 s12N) r),sh,sh,?_⟩
    rw [Eo sh]
    exact ⟨fun h=>nb h,fun _=>inv sg12⟩
   clear sa0 la0
   rintro σ H16 ⟨es,last,kv,o7,o8,o9,o10,rfl,sa,la0⟩
   refine ⟨fun σ H'=>∃(es:List En) (last:Int) (kv:List V) (o11:Option V),σ=[some (.ref a),some (.ref x),some (.bl cr),some (.ref NL),some (.ref L),some (.ref KL),some (.ref S),o7,o8,o9,o10,o11]∧Jl K N H' L A R KL S nm es last kv,?_,?_⟩
   ·have lk:=sa.ak.len
    refine ⟨_,.inl (A0.of sa.ek),⟨fun h=>?_,fun _=>⟨es,last,kv,none,rfl,sa⟩⟩⟩
    have h:((kv.length:Nat):Int)=40:=of_decide_eq_true h
    have k0:0<kv.length:=by omega
    obtain ⟨e,he,t,p,ev,ht,hp⟩:=sa.ak.get (List.getElem?_eq_getElem k0)
    have em:=List.mem_of_getElem? he
    obtain ⟨g1,g2⟩:=sa.ok.mem e em
    obtain ⟨⟨h0,h2⟩,ne⟩:=sa.gk e em
    have at0:∀{vs:List V} {v:V},vs[0]? =some v→Qt vs 0=some v:=fun h=>Cn (j:=0) h
    refine ⟨_,.ref t,A0.of sa.ek,at0 (by rw [List.getElem?_eq_getElem k0,ev]),_,ht,?_⟩
    obtain ⟨N',sg,no',sNN,keep⟩:=sa.grow no
    obtain ⟨_,_,_,eL5,_,_,_,eA5,_⟩:=id sa.lg
    obtain ⟨_,tt5,_⟩:=id sa.tk
    have hpN:N' p=some (.tup [.int e.2.d,.str e.2.a,.str e.2.b,.int e.2.h,.int e.2.s]):=keep _ _ (fun z=>by
     rcases List.mem_cons.mp z with z|z
     ·rw [z,eL5] at hp;cases hp
     rcases List.mem_cons.mp z with z|z
     ·rw [z,eA5] at hp;cases hp
     rcases List.mem_cons.mp z with z|z
     ·rw [z,tt5] at hp;cases hp
     rcases List.mem_cons.mp z with z|z
     ·rw [z,sa.ek] at hp;cases hp
     ·rw [List.mem_singleton.mp z,sa.es] at hp;cases hp) hp
    clear eL5 eA5 tt5 keep
    refine ⟨N',A,R,nm,es,last,kv,e.2,⟨sg,no',n9,⟨p,rfl,hp⟩,g1,g2,ne,h0,h2⟩,fun H2 es2 last2 kv2 sa2 le2 _=>⟨fun h=>nb h,fun _=>?_⟩⟩
    have lk2:=sa2.ak.len
    have k2:0<kv2.length:=by omega
    have n0:0<es2.length:=by omega
    obtain ⟨e',he',t',p',ev',ht',hp'⟩:=sa2.ak.get (List.getElem?_eq_getElem k2)
    have ee:e'=es2[0]:=by
     rw [List.getElem?_eq_getElem n0] at he'
     exact (Option.some.inj he').symm
    obtain ⟨dx,fs,eL,fd⟩:=cls sa2.lg
    refine ⟨L,_,dx,fs,_,rfl,eL,.head _,fd.ta,_,.ref t',A0.of sa2.ek,at0 (by rw [List.getElem?_eq_getElem k2,ev']),_,ht',A,R,es2,last2,⟨sa2.lg,sa2.ok.inc,sa2.le,sa2.pl,sa2.tk⟩,fun g hn D H3 fr lg3 tk3=>?_,fun nn=>absurd rfl (nn e' (List.mem_of_getElem? he'))⟩
    obtain ⟨kl,kt⟩:=Iz fr sa2.lg sa2.tk
    have ek3:=kl _ _ sa2.ek
    refine ⟨.inl ⟨rfl,_,A0.of ek3⟩,KL,kv2,_,0,kv2[0],rfl,rfl,ek3,by omega,by omega,Zh (u:=0) k2,List.getElem?_eq_getElem k2,?_⟩
    have x9:Sx KL H3 (upd H3 KL (.lst (kv2.eraseIdx 0))):=Sx.upd
    have kt9:Kt H3 (upd H3 KL (.lst (kv2.eraseIdx 0))):=E6 ek3
    have kt29:=kt.trans kt9
    have wi:wo es2 e'.1=es2.eraseIdx 0:=Te sa2.ok.inc he'
    rw [wi] at lg3
    have subE:∀e∈es2.eraseIdx 0,e∈es2:=fun e he=>List.mem_of_mem_eraseIdx he
    have le9:(es2.eraseIdx 0).length≤es2.length:=(List.eraseIdx_sublist ..).length_le
    have l2:=sa2.le
    have st9:Jl K N' (upd H3 KL (.lst (kv2.eraseIdx 0))) L A R KL S nm (es2.eraseIdx 0) last2 (kv2.eraseIdx 0):=⟨x9.n (Zu fr sa2.sm no'.l no'.a no'.t) no'.k,Ej tk3 x9 (.inl ⟨_,ek3⟩),lg3.sxl ek3,⟨sa2.ok.inc.sublist (List.eraseIdx_sublist ..),fun e he=>sa2.ok.le e (subE e he),fun e he=>sa2.ok.mem e (subE e he)⟩,by omega,Nat.le_trans X8 sa2.pl,fun e he=>sa2.gk e (subE e he),Ad,(Hv 0 sa2.ak).imp fun v e r=>He v e _ _ kt29 r,x9 _ _ (Ne.symm no'.ne) (kl _ _ sa2.es)⟩
    exact ⟨N',A,R,nm,_,last2,_,e.2,⟨st9,no',n9,⟨p,rfl,st9.sm _ _ hpN⟩,g1,g2,ne,h0,h2⟩,fun H5 es5 last5 kv5 sa5 _ _=>⟨fun h=>nb h,fun _=>⟨es5,last5,kv5,_,rfl,sa5.low sNN⟩⟩⟩
   rintro σ H17 ⟨es,last,kv,o11,rfl,sa⟩
   intro L2 dx2 hL2 hd2 ne2
   have s18:=Lh (C:=c_Ledger) hL2 hd2 ne2
   have e18:upd (upd H17 dx2 (.own L2)) L2 (.ins c_Ledger dx2 []) L2=some (.ins c_Ledger dx2 []):=Ad
   generalize upd (upd H17 dx2 (.own L2)) L2 (.ins c_Ledger dx2 [])=H18 at s18 e18
   refine ⟨_,dx2,0,st,fi,0,0,_,⟨e18,er.y_Ledger,(hxN.up sa.sm).up s18,Vw⟩,fun A2 R2 H19 s19 nA2 _ nR2 lg19 hR19=>⟨rfl,?_⟩⟩
   have s1719:Ai H17 H19:=fun b o e=>s19 b o (fun z=>by rw [z,hL2] at e;cases e) (s18 b o e)
   have tk19:=sa.tk.up s1719
   obtain ⟨_,tt19,_⟩:=id tk19
   have eN19:=(sa.sm.trans s1719) _ _ eNN
   have n0:0<nm.length:=by omega
   refine ⟨_,.str nm[0],A0.of eN19,Cn (j:=0) (by rw [List.getElem?_map,List.getElem?_eq_getElem n0];rfl),?_⟩
   refine .inr (.inr ⟨rfl,nm[0],A2,R2,[],0,0,st,fi,0,0,_,rfl,⟨lg19,Afp tt19 hR19.at,tb,b,bf,by decide,fun e h=>by (cases h),tk19,by decide⟩,fun hx=>?_,fun _ t H20 sm20 tk20 rf=>⟨2,rfl,fun t' H21 s21 rf'=>⟨_,_,Km (rf.up s21),Km rf',F6 2 (by decide),F6 2 (by decide),?_⟩⟩⟩)
   ·obtain ⟨g,hg,_⟩:=B4.mp hx
    cases hg
   rw [Eo (F6 2 (by decide))]
   exact k H21
end
theorem lenE1:∀us:List Value,us.length=1→∃y0:Value,us=[y0]
 |[y0],_=>⟨_,rfl⟩
theorem lenE2:∀us:List Value,us.length=2→∃y0 y1:Value,us=[y0,y1]
 |[y0,y1],_=>⟨_,_,rfl⟩
theorem lenE3:∀us:List Value,us.length=3→∃y0 y1 y2:Value,us=[y0,y1,y2]
 |[y0,y1,y2],_=>⟨_,_,_,rfl⟩
theorem lenE4:∀us:List Value,us.length=4→∃y0 y1 y2 y3:Value,us=[y0,y1,y2,y3]
 |[y0,y1,y2,y3],_=>⟨_,_,_,_,rfl⟩
theorem lenE5:∀us:List Value,us.length=5→∃y0 y1 y2 y3 y4:Value,us=[y0,y1,y2,y3,y4]
 |[y0,y1,y2,y3,y4],_=>⟨_,_,_,_,_,rfl⟩
theorem dmk {K:PySem.W.Frag}{h:Heap}{mg:Str→Option Value}{x:Str}{st:Stmt}{ps:List Str}{f:Addr}{od an:Option Addr}{sl:Array (Option Value)}{oc kV dc pm cd ct:Value}(X:K.In h)(G:h.Ns mainGlobals mg)(a:PySem.W.nsIn K mainGlobals x=some (some (.ref f)))(l:K.lookup f=some ⟨oc,od,.func (PySem.W.fnOf x x (C1 st) (Bp st) (Ag st) .none kV dc pm an cd ct),sl⟩)(e:PySem.W.codeIn K cd x=true)(k:PySem.W.keepIn K (.ref f)=true)(hb:∀(kV doc pm:Value) (an:Option Addr) (cdv ct:Value) (us:List Value),us.length=ps.length→bindArgs (PySem.W.fnOf x x (C1 st) (Bp st) (Ag st) .none kV doc pm an cdv ct) ⟨us,[]⟩=pure (ps.zip us)):B0 K mg x st ps:=⟨⟨_,_,Jx l e k,PySem.W.mg_of X G a,(Jx l e k).binds hb⟩⟩
theorem mmk {K:PySem.W.Frag}{x q:Str}{Cs Ds:List Addr}{st:Stmt}{ps:List Str}{f:Addr}{od an:Option Addr}{sl:Array (Option Value)}{oc kV dc pm cd ct:Value}(A:∀C∈Cs,Aak K C x f)(B:∀C∈Ds,PySem.W.findCls K (.ref C) (.type "type") x=some (.val (.ref f)))(l:K.lookup f=some ⟨oc,od,.func (PySem.W.fnOf x q (C1 st) (Bp st) (Ag st) .none kV dc pm an cd ct),sl⟩)(e:PySem.W.codeIn K cd q=true)(k:PySem.W.keepIn K (.ref f)=true)(hb:∀(kV doc pm:Value) (an:Option Addr) (cdv ct:Value) (us:List Value),us.length=ps.length→bindArgs (PySem.W.fnOf x q (C1 st) (Bp st) (Ag st) .none kV doc pm an cdv ct) ⟨us,[]⟩=pure (ps.zip us)):Dq K Cs Ds x q st ps:=⟨⟨_,_,Jx l e k,A,B,(Jx l e k).binds hb⟩⟩
theorem tup_mk {K:PySem.W.Frag}{a:Addr}{xs:List V}{us:Array Value}{n:Nat}{sl:Array (Option Value)}(p:K.lookup a=some ⟨.type "tuple",none,.seq us n,sl⟩)(h:us.size≤sizeLine)(q:Az xs us.toList):Zl K a xs:=⟨fun H=>.inr ⟨_,_,_,p,rfl,rfl,h,q⟩,⟨_,p,rfl,rfl⟩⟩
theorem all_mk {l:PySem.W.OpenLaw}{w:World}{K:PySem.W.Frag}{h:Heap}{mg:Str→Option Value}{fa:Addr}{f8:Addr}{od8 an8:Option Addr}{sl8:Array (Option Value)}{oc8 kV8 dc8 pm8 ct8:Value}{f44:Addr}{od44 an44:Option Addr}{sl44:Array (Option Value)}{oc44 kV44 dc44 pm44 cd44 ct44:Value}{ts:List Addr}{cc tP:Addr}{vsC:Array Value}{clC:Value}{cdC:Option Addr}{slC:Array (Option Value)}{c_LadderError c_Ledger c_NoBook c_NoFit c_NoGame c_NoNumber c_NoPlayer c_NoRow c_NoTable c_Rule:Addr}{a_FIRST_ROW:Addr}{b_FIRST_ROW_1:Addr}(X:K.In h)(G:h.Ns mainGlobals mg)(hfa:mg "law"=some (.ref fa))(d_is_whole:B0 K mg "is_whole" Hz ["thing"])(d_fraction:B0 K mg "fraction" Ht ["top","bottom"])(d_greatest_divisor:B0 K mg "greatest_divisor" Cq ["one","other"])(d_plus:B0 K mg "plus" Tn ["one","other"])(d_minus:B0 K mg "minus" Ph ["one","other"])(d_under:B0 K mg "under" Pu ["one","other"])(d_is_between:B0 K mg "is_between" Fx ["thing","least","most"])(d_check_size:B0 K mg "check_size" Fp ["games"])(a8:PySem.W.nsIn K mainGlobals "in_order"=some (some (.ref f8)))(l8:K.lookup f8=some ⟨oc8,od8,.func (PySem.W.fnOf "in_order" "in_order" (C1 Cp) (Bp Cp) (Ag Cp) .none kV8 dc8 pm8 an8 (.ref cc) ct8),sl8⟩)(e8:PySem.W.codeIn K (.ref cc) "in_order"=true)(k8:PySem.W.keepIn K (.ref f8)=true)(d_players:B0 K mg "players" Kg ["games"])(d_check_player:B0 K mg "check_player" El ["games","name"])(d_trail:B0 K mg "trail" Ov ["rule","games"])(d_next_step:B0 K mg "next_step" Gp ["rule","worths","days","played"])(d_rest_behind:B0 K mg "rest_behind" E1 ["days","day"])(d_move:B0 K mg "move" Tc ["worths","step"])(d_running:B0 K mg "running" Jv ["rule","games"])(d_Ledger___init__:Dq K [c_Ledger] [] "__init__" "Ledger.__init__" Cy ["self","rule"])(d_Ledger_put:Dq K [c_Ledger] [] "put" "Ledger.put" Ft ["self","played"])(d_Ledger_take:Dq K [c_Ledger] [] "take" "Ledger.take" E4 ["self","number"])(d_Ledger_games:Dq K [c_Ledger] [] "games" "Ledger.games" Ec ["self"])(d_Ledger_worths:Dq K [c_Ledger] [] "worths" "Ledger.worths" Dr ["self"])(d_Ledger_worth:Dq K [c_Ledger] [] "worth" "Ledger.worth" Eb ["self","name"])(d_reached:B0 K mg "reached" Jw ["kept","number"])(d_behind:B0 K mg "behind" L9 ["kept","number"])(d_table_of:B0 K mg "table_of" Hx ["rows"])(d_is_row:B0 K mg "is_row" Ly ["thing"])(d_is_pair:B0 K mg "is_pair" Jo ["thing"])(d_is_share:B0 K mg "is_share" Hs ["thing"])(d_goes_on:B0 K mg "goes_on" Kb ["row","later"])(d_share_by:B0 K mg "share_by" Eg ["table","difference"])(d_Rule___init__:Dq K [c_Rule] [] "__init__" "Rule.__init__" Dt ["self","step","first","table"])(d_Rule_size:Dq K [c_Rule] [] "size" "Rule.size" Gi ["self","played","rest"])(d_Rule_bit:Dq K [c_Rule] [] "bit" "Rule.bit" Ho ["self","difference","halves","played","rest"])(d_Rule_twin:Dq K [c_Rule] [] "twin" "Rule.twin" G1 ["self"])(d_uncut_bit:B0 K mg "uncut_bit" Gq ["size","share","halves"])(d_l_cell:B0 K mg "_law_cell" Mm ["_law_script","_law_k"])(d_l_names:B0 K mg "_law_names" Ju ["_law_cell_here","_law_many"])(d_l_game:B0 K mg "_law_game" M6 ["_law_cell_here","_law_names_here"])(d_l_asked:B0 K mg "_law_asked" Jr ["_law_ledger","_law_word","_law_thing"])(d_l_refusal:B0 K mg "_law_refusal" Ga ["_law_at"])(d_l_there:B0 K mg "_law_there" Jp ["_law_kept"])(d_l_put:B0 K mg "_law_put" O1 ["_law_ledger","_law_kept","_law_state","_law_played"])(d_l_take:B0 K mg "_law_take" Mc ["_law_ledger","_law_kept","_law_state","_law_cell_here"])(d_l_worth:B0 K mg "_law_worth" Jy ["_law_ledger","_law_kept","_law_name"])(a44:PySem.W.nsIn K mainGlobals "law"=some (some (.ref f44)))(l44:K.lookup f44=some ⟨oc44,od44,.func (PySem.W.fnOf "law" "law" (C1 Hd) (Bp Hd) (Ag Hd) .none kV44 dc44 pm44 an44 cd44 ct44),sl44⟩)(e44:PySem.W.codeIn K cd44 "law"=true)(k44:PySem.W.keepIn K (.ref f44)=true)(t1:K.lookup cc=some ⟨clC,cdC,.fields vsC,slC⟩)(t2:(vsC[11]?:Option Value)=some (.ref tP))(t3:PySem.W.codeHdIn K cc tP=true)(t4:K.lookup tP=none)(t8:tP∈ts)(er:Bh K mg c_LadderError c_Ledger c_NoBook c_NoFit c_NoGame c_NoNumber c_NoPlayer c_NoRow c_NoTable c_Rule)(n_ValueError:mg "ValueError"=none)(n_abs:mg "abs"=none)(n_all:mg "all"=none)(n_bool:mg "bool"=none)(n_dict:mg "dict"=none)(n_int:mg "int"=none)(n_isinstance:mg "isinstance"=none)(n_len:mg "len"=none)(n_list:mg "list"=none)(n_max:mg "max"=none)(n_min:mg "min"=none)(n_range:mg "range"=none)(n_set:mg "set"=none)(n_sorted:mg "sorted"=none)(n_tuple:mg "tuple"=none)(n_zip:mg "zip"=none)(v_FIRST_ROW:Wm mg "FIRST_ROW" (.ref a_FIRST_ROW))(w_FIRST_ROW:Zl K a_FIRST_ROW [.int (0),.ref b_FIRST_ROW_1])(w_FIRST_ROW_1:Zl K b_FIRST_ROW_1 [.int (1),.int (2)])(v_LAST_FROM:Wm mg "LAST_FROM" (.int (1000000)))(v_MOST_GAMES:Wm mg "MOST_GAMES" (.int (40)))(v_MOST_PART:Wm mg "MOST_PART" (.int (9999)))(v_MOST_PLAYERS:Wm mg "MOST_PLAYERS" (.int (8)))(v_MOST_ROWS:Wm mg "MOST_ROWS" (.int (10))) :
  (∃c P,PySem.W.tabIn K "in_order"=some (c,P)∧PySem.W.codeHdIn K c P=true∧K.lookup P=none∧P∈ts)∧∃fd:FuncData,(∀(s:Shared) (v:Value),BindsTo s fd ⟨[v],[]⟩ [("_law_script",v)])∧∀base:Heap,K.In base→base.Ns mainGlobals mg→BmB mg base→Gv l.prog w K mg base (F9 l.prog w) 15 fa fd ["_law_script"] (G6 "in_order" K):=by
 have F8:=Jx (st:=Cp) l8 e8 k8
 have d_in_order:B0 K mg "in_order" Cp ["games"]:=⟨⟨_,_,F8,PySem.W.mg_of X G a8,F8.binds fun _ _ _ _ _ _ us hl=>by obtain ⟨_,rfl⟩:=lenE1 us hl;rfl⟩⟩
 have F44:=Jx (st:=Hd) l44 e44 k44
 have d_law:B0 K mg "law" Hd ["_law_script"]:=⟨⟨_,_,F44,PySem.W.mg_of X G a44,F44.binds fun _ _ _ _ _ _ us hl=>by obtain ⟨_,rfl⟩:=lenE1 us hl;rfl⟩⟩
 have e:=hfa.symm.trans (PySem.W.mg_of X G a44)
 cases e
 have tb:=Afc (x:="in_order") a8 l8 rfl t1 t2
 have tk:∀base,BmB mg base→Adz K mg base "in_order":=fun base hbm=>⟨⟨_,_,_,_,_,cc,PySem.W.mg_of X G a8,l8,rfl,by rw [Vf tb];exact t3⟩,hbm⟩
 refine ⟨⟨_,_,tb,t3,t4,t8⟩,?_⟩
 refine ⟨PySem.W.fnOf "law" "law" (C1 Hd) (Bp Hd) (Ag Hd) .none kV44 dc44 pm44 an44 cd44 ct44,fun s v=>.of_eq rfl,fun base _ _ hbm=>Aap F44 (PySem.W.mg_of X G a44) fun ns=>?_⟩
 have c_is_whole:=Q1 (P:=l.prog) (w:=w) (base:=base) (ns:=ns) d_is_whole er n_isinstance n_bool n_int
 have c_greatest_divisor:=Hc (P:=l.prog) (w:=w) (base:=base) (ns:=ns) d_greatest_divisor er n_abs
 have c_under:=Y5 (P:=l.prog) (w:=w) (base:=base) (ns:=ns) d_under er
 have c_players:=Sz (P:=l.prog) (w:=w) (base:=base) (ns:=ns) d_players er n_sorted n_set
 have c_rest_behind:=Ml (P:=l.prog) (w:=w) (base:=base) (ns:=ns) d_rest_behind er
 have c_is_pair:=S3 (P:=l.prog) (w:=w) (base:=base) (ns:=ns) d_is_pair er n_len n_isinstance n_tuple
 have c_Rule_size:=Qo (P:=l.prog) (w:=w) (base:=base) (ns:=ns) d_Rule_size er
 have c_l_cell:=V5 (P:=l.prog) (w:=w) (base:=base) (ns:=ns) d_l_cell er n_len
 have c_l_names:=S9 (P:=l.prog) (w:=w) (base:=base) (ns:=ns) d_l_names er n_range
 have c_l_game:=Xh (P:=l.prog) (w:=w) (base:=base) (ns:=ns) d_l_game er n_len
 have c_l_refusal:=Pg (P:=l.prog) (w:=w) (base:=base) (ns:=ns) d_l_refusal er
 have c_l_there:=Uq (P:=l.prog) (w:=w) (base:=base) (ns:=ns) d_l_there er
 have c_fraction:=Ry d_fraction er c_greatest_divisor c_is_whole
 have c_is_between:=M9 d_is_between er c_is_whole
 have c_check_size:=Nt d_check_size er n_len v_MOST_PLAYERS v_MOST_GAMES c_players
 have c_check_player:=K7 d_check_player er c_players
 have c_goes_on:=Ub d_goes_on er c_under
 have c_plus:=Abe d_plus er c_fraction
 have c_minus:=Z2 d_minus er c_fraction
 have c_in_order:=Rk (P:=l.prog) (w:=w) (base:=base) (ns:=ns) d_in_order (tk base hbm) er n_sorted
 have c_is_share:=Rb d_is_share er v_MOST_PART c_fraction c_is_between c_is_pair
 have c_uncut_bit:=Pi d_uncut_bit er c_fraction
 have c_move:=Aa6 d_move er c_minus c_plus
 have c_Ledger_games:=K5 d_Ledger_games er n_list c_in_order
 have c_behind:=Xb d_behind er c_in_order
 have c_is_row:=Wv d_is_row er v_LAST_FROM c_is_share c_is_between c_is_pair
 have c_reached:=Tk d_reached er n_sorted n_set n_list c_behind
 have c_table_of:=Rr d_table_of er n_list n_all n_zip n_len n_isinstance v_FIRST_ROW w_FIRST_ROW w_FIRST_ROW_1 v_MOST_ROWS c_goes_on c_is_row
 have c_Ledger_put:=Nf d_Ledger_put er n_list c_reached c_check_size
 have c_Ledger_take:=L6 d_Ledger_take er c_reached
 have c_share_by:=Sc d_share_by er c_under c_minus
 have c_Rule___init__:=J4 d_Rule___init__ er c_table_of
 have c_Rule_bit:=Q0 d_Rule_bit er c_uncut_bit c_share_by c_Rule_size
 have c_next_step:=Qa d_next_step er n_max n_min n_len c_Rule_bit c_minus c_rest_behind
 have c_Rule_twin:=Qn d_Rule_twin er c_Rule___init__
 have c_trail:=X9 d_trail er c_in_order c_move c_next_step
 have c_Ledger___init__:=Hm d_Ledger___init__ er c_Rule_twin
 have c_running:=Ta d_running er n_sorted c_trail c_move
 have c_Ledger_worths:=Kf d_Ledger_worths er c_running c_Ledger_games
 have c_Ledger_worth:=La d_Ledger_worth er n_dict c_Ledger_worths c_check_player c_Ledger_games
 have c_l_asked:=Ua d_l_asked er n_isinstance n_ValueError c_Ledger_put c_Ledger_take c_Ledger_worth
 have c_l_put:=Z0 d_l_put er n_len c_l_refusal c_l_there c_l_asked
 have c_l_take:=Xg d_l_take er n_range n_len n_max c_l_refusal c_l_asked
 have c_l_worth:=Tj d_l_worth er n_isinstance n_tuple c_l_refusal c_l_there c_l_asked
 exact Agq d_law er n_len n_range n_min n_int c_l_asked c_Ledger___init__ c_l_refusal c_l_put c_Ledger_take c_Ledger_worths c_Ledger_games c_l_game c_l_take c_l_worth c_l_cell c_l_names c_Rule___init__
theorem walk {ts:List Addr}{l:PySem.W.OpenLaw}{q:Program}{loose:List Str}{XP:(Str→Option Value)→Heap→Prop}{YP:World→Heap→Prop}{d:DefRec}{K:Params→PySem.W.Frag}(hn:l.most=some 63)(hdf:d.params.defaults=[])
  (hY:∀(w:World) (h:Heap),YP w h→(K w.params).In h)
  (hT:∀(w:World) (h:Heap),YP w h→∀P∈ts,h.get? P=some (PySem.W.tabObj #[]))
  (F:∀(w:World) (mg:Str→Option Value) (fa:Addr) (h:Heap),(K w.params).In h→h.Ns mainGlobals mg→mg d.name=some (.ref fa)→(∃c P,PySem.W.tabIn (K w.params) "in_order"=some (c,P)∧PySem.W.codeHdIn (K w.params) c P=true∧(K w.params).lookup P=none∧P∈ts) ∧
   ∃fd:FuncData,(∀(s:Shared) (u:Value),BindsTo s fd ⟨[u],[]⟩ [("_law_script",u)])∧∀base:Heap,(K w.params).In base→base.Ns mainGlobals mg→BmB mg base→Gv l.prog w (K w.params) mg base (F9 l.prog w) 15 fa fd ["_law_script"] (G6 "in_order" (K w.params))) :
  PySem.W.WalkO q loose XP YP l.row.toRowW d [] (fun f vs=>PySem.call f vs):=
 Lw.walk_ofBT (y:="in_order") (n:=63) (k:=15) (x:="_law_script") (CX:=fun w=>F9 l.prog w) (sp:=fun w=>G6 "in_order" (K w.params)) hn (by decide) hdf ⟨rfl,by decide,by decide⟩ hY hT F (fun _ _ a ns hl hb hO hS=>⟨ns,a,rfl,hS,hl,hb,hO.1,fun _=>rfl⟩) fun _ _ _ _ _ z=>Ais z
end My
def PySem.W.Fast.tw7402875047232936374:=0
def PySem.W.Fast.tw7079840297185838734:=0
def PySem.W.Fast.tw6147222732532688658:=0
def PySem.W.Fast.tw11311270932231365584:=0
def PySem.W.Fast.tw16457458350621247377:=0
def PySem.W.Fast.tw14888027942688727413:=0
def PySem.W.Fast.tw5557786064647214195:=0
def PySem.W.Fast.tw8721132985430325300:=0
def PySem.W.Fast.tw1073356013742463240:=0
def PySem.W.Fast.tw1707734735497393108:=0
def PySem.W.Fast.tw7128404080561105094:=0
def PySem.W.Fast.tw14745670406238447445:=0
def PySem.W.Fast.tw10934767806317897666:=0
def PySem.W.Fast.tw12869696158451120255:=0
def PySem.W.Fast.tw17767574566392402237:=0
def PySem.W.Fast.tw8871611593489984739:=0
def PySem.W.Fast.tw8532338231586350464:=0
def PySem.W.Fast.tw11943209127888152305:=0
def PySem.W.Fast.tw13669837166297752022:=0
def PySem.W.Fast.tw14526807462563696426:=0
def PySem.W.Fast.tw3833307480174768818:=0
def PySem.W.Fast.tw15237656231198312841:=0
def PySem.W.Fast.tw11418230121407392103:=0
def PySem.W.Fast.tw6503222036974518692:=0
def PySem.W.Fast.tw16971733895770667218:=0
def PySem.W.Fast.tw8445084662831384934:=0
def PySem.W.Fast.tw78493555452570168:=0
def PySem.W.Fast.tw1323815922417336579:=0
def PySem.W.Fast.tw12814373165004050541:=0
def PySem.W.Fast.tw10842329684050668768:=0
def PySem.W.Fast.tw737532169854527739:=0
def PySem.W.Fast.tw5435768044292102259:=0
def PySem.W.Fast.tw15466556823265506990:=0
def PySem.W.Fast.tw17391485662966671707:=0
def PySem.W.Fast.tw11909743003751743763:=0
def PySem.W.Fast.tw7004955630899919221:=0
def PySem.W.Fast.tw11094752063820995949:=0
def PySem.W.Fast.tw7231846853516407173:=0
def PySem.W.Fast.tw11197061870334922010:=0
def PySem.W.Fast.tw12346630308209198626:=0
def PySem.W.Fast.tw4534553823849540308:=0
def PySem.W.Fast.tw12585846773940065090:=0
def PySem.W.Fast.tw7044073539293810888:=0
def PySem.W.Fast.tw4780652504135044011:=0
def PySem.W.Fast.tw8759533213556793705:=0
def PySem.W.Fast.tw6003380524620993167:=0
def PySem.W.Fast.tw3463095523501363581:=0
def PySem.W.Fast.tw7383423168097171926:=0
def PySem.W.Fast.tw875702455413837536:=0
def PySem.W.Fast.tw3856545850775398055:=0
def PySem.W.Fast.tw17782256378717669356:=0
def PySem.W.Fast.tw1687700525874659490:=0
def PySem.W.Fast.tw1803224407292961701:=0
def PySem.W.Fast.tw15055184663331011642:=0
def PySem.W.Fast.tw13027281070045292155:=0
def PySem.W.Fast.tw2974336596687179308:=0
def PySem.W.Fast.tw10443889457717021454:=0
def PySem.W.Fast.tw9305158968092465611:=0
def PySem.W.Fast.tw16169205594190323758:=0
def PySem.W.Fast.tw1227199193971907409:=0
def PySem.W.Fast.tw16522473312318389070:=0
def PySem.W.Fast.tw6255653147019794332:=0
def PySem.W.Fast.tw4284820697306370906:=0
def PySem.W.Fast.tw9909807616287853392:=0
def PySem.W.Fast.tw6502136363591056573:=0
def PySem.W.Fast.tw3554834674788085789:=0
def PySem.W.Fast.tw1386141808022358435:=0
def PySem.W.Fast.tw1534439090268822347:=0
def PySem.W.Fast.tw16903067426584596144:=0
def PySem.W.Fast.tw6268971404181250538:=0
def PySem.W.Fast.tw6220762753355448080:=0
def PySem.W.Fast.tw5550321725715974677:=0
def PySem.W.Fast.tw12228810489306908531:=0
def PySem.W.Fast.tw4669517487534174514:=0
def PySem.W.Fast.tw525498239977795223:=0
def PySem.W.Fast.tw16876737516191643008:=0
def PySem.W.Fast.tw13456926558909553301:=0
def PySem.W.Fast.tw5983211548055645497:=0
def PySem.W.Fast.tw1883425134902369318:=0
def PySem.W.Fast.tw6156782392374907244:=0
def PySem.W.Fast.tw13708955373126286318:=0
def PySem.W.Fast.tw9666487882125873160:=0
def PySem.W.Fast.tw11798308964849003882:=0
def PySem.W.Fast.tw11082188949243654236:=0
def PySem.W.Fast.tw17151202204853250062:=0
def PySem.W.Fast.tw176610398853555219:=0
def PySem.W.Fast.tw13612879226758396309:=0
def PySem.W.Fast.tw13603022422295177507:=0
def PySem.W.Fast.tw10614908448129320291:=0
def PySem.W.Fast.tw7747432406389116207:=0
def PySem.W.Fast.tw4040349182538899321:=0
def PySem.W.Fast.tw7063582962542234724:=0
def PySem.W.Fast.tw8622160151721983846:=0
def PySem.W.Fast.tw11471192989517127075:=0
def PySem.W.Fast.tw8257255766103311836:=0
def PySem.W.Fast.tw516985904760099243:=0
def PySem.W.Fast.tw3844696213329241761:=0
def PySem.W.Fast.tw17388633575700839857:=0
def PySem.W.Fast.tw6401893782624172057:=0
def PySem.W.Fast.tw9988161046082276207:=0
def PySem.W.Fast.tw909664763056415184:=0
def PySem.W.Fast.tw18132857664734598613:=0
def PySem.W.Fast.tw5576885257472917359:=0
def PySem.W.Fast.tw4314162636100275697:=0
def PySem.W.Fast.tw10708577963151537624:=0
def PySem.W.Fast.tw3640940576399230133:=0
def PySem.W.Fast.tw15838858661835097140:=0
def PySem.W.Fast.tw17800647591983806736:=0
def PySem.W.Fast.tw10278365498943285115:=0
def PySem.W.Fast.tw16981938440369884892:=0
def PySem.W.Fast.tw9121426712733699952:=0
def PySem.W.Fast.tw14613584206647987087:=0
def PySem.W.Fast.tw14786846905981558911:=0
def PySem.W.Fast.tw15239042265416110522:=0
def PySem.W.Fast.tw419861248454077635:=0
def PySem.W.Fast.tw16609298823125432284:=0
def PySem.W.Fast.tw15411945570190847982:=0
def PySem.W.Fast.tw1391297548539489365:=0
def PySem.W.Fast.tw15236600403725887982:=0
def PySem.W.Fast.tw1149351028782486422:=0
def PySem.W.Fast.tw16429643376384541814:=0
def PySem.W.Fast.tw5121381239605011966:=0
def PySem.W.Fast.tw16046327957577647405:=0
def PySem.W.Fast.tw1413364453783307602:=0
def PySem.W.Fast.tw178710321700359097:=0
def PySem.W.Fast.tw7164356232539121237:=0
def PySem.W.Fast.tw5153396336187637419:=0
def PySem.W.Fast.tw13315879594742659122:=0
def PySem.W.Fast.tw3041421287669187388:=0
def PySem.W.Fast.tw10471977629935170411:=0
def PySem.W.Fast.tw274092035720943887:=0
def PySem.W.Fast.tw1513007090822116600:=0
def PySem.W.Fast.tw11237954500285076513:=0
def PySem.W.Fast.tw15338928572200193219:=0
def PySem.W.Fast.tw17338757734935650113:=0
open PySem PySem.W PyProof.Rows
set_option maxRecDepth 100000 in
set_option maxHeartbeats 0 in
theorem PySem.Challenge.cw_ladderworth_k52_what_a_ledger_refuses_holds : PySem.Challenge.rw_ladderworth_k52_what_a_ledger_refuses.Holds := by
 w_on;o_law;k_head;(case hw=>w_witness2)
 k_fill
 refine My.walk (l:=PySem.Challenge.rw_ladderworth_k52_what_a_ledger_refuses) rfl rfl (fun w h Y=>PySem.W.km_in_of Y) (fun w h Y=>PySem.W.km_tabs_of Y) ?F
 case F=>
  intro w mg fa h KX G hmg
  refine' My.all_mk KX G hmg ?d0 ?d1 ?d2 ?d3 ?d4 ?d5 ?d6 ?d7 ?a8 ?l8 ?e8 ?k8 ?d9 ?d10 ?d11 ?d12 ?d13 ?d14 ?d15 ?d16 ?d17 ?d18 ?d19 ?d20 ?d21 ?d22 ?d23 ?d24 ?d25 ?d26 ?d27 ?d28 ?d29 ?d30 ?d31 ?d32 ?d33 ?d34 ?d35 ?d36 ?d37 ?d38 ?d39 ?d40 ?d41 ?d42 ?d43 ?a44 ?l44 ?e44 ?k44 ?t1 ?t2 ?t3 ?t4 ?t8 ?er ?n_ValueError ?n_abs ?n_all ?n_bool ?n_dict ?n_int ?n_isinstance ?n_len ?n_list ?n_max ?n_min ?n_range ?n_set ?n_sorted ?n_tuple ?n_zip ?v_FIRST_ROW ?w_FIRST_ROW ?w_FIRST_ROW_1 ?v_LAST_FROM ?v_MOST_GAMES ?v_MOST_PART ?v_MOST_PLAYERS ?v_MOST_ROWS
  (case er=>
   refine' ⟨PySem.W.mg_of KX G ?_,PySem.W.mg_of KX G ?_,PySem.W.mg_of KX G ?_,PySem.W.mg_of KX G ?_,PySem.W.mg_of KX G ?_,PySem.W.mg_of KX G ?_,PySem.W.mg_of KX G ?_,PySem.W.mg_of KX G ?_,PySem.W.mg_of KX G ?_,PySem.W.mg_of KX G ?_,?_,?_,?_,?_,⟨?_,?_,?_,?_,?_,?_⟩,⟨?_,?_,?_,?_,?_,?_⟩,⟨?_,?_,?_,?_,?_,?_⟩,⟨?_,?_,?_,?_,?_,?_⟩,⟨?_,?_,?_,?_,?_,?_⟩,?_,?_,?_,?_,?_,?_,?_,?_,?_,?_,?_,?_,?_,?_,?_,?_,?_,?_,?_,?_,?_,?_,?_,?_,?_,?_,?_,?_,⟨?_,?_,?_,?_⟩,⟨?_,?_⟩,?_,?_,?_,?_,⟨?_,?_,?_,?_⟩,⟨?_,?_⟩,?_,?_,?_⟩
   all_goals (try unfold L2.NoAttr);try (first|k_is|k_exc|kernel_rfl))
  (case d0|d7|d9|d24|d25|d26|d27|d39|d40=>refine' My.dmk KX G ?uA ?uL ?uE ?uK (fun _ _ _ _ _ _ us hl=>by obtain ⟨_,rfl⟩:=My.lenE1 us hl;rfl);(case uA|uL|uE|uK=>k_is))
  (case d1|d2|d3|d4|d5|d10|d11|d13|d14|d15|d22|d23|d28|d29|d35|d36|d37=>refine' My.dmk KX G ?uA ?uL ?uE ?uK (fun _ _ _ _ _ _ us hl=>by obtain ⟨_,_,rfl⟩:=My.lenE2 us hl;rfl);(case uA|uL|uE|uK=>k_is))
  (case d6|d34|d38|d43=>refine' My.dmk KX G ?uA ?uL ?uE ?uK (fun _ _ _ _ _ _ us hl=>by obtain ⟨_,_,_,rfl⟩:=My.lenE3 us hl;rfl);(case uA|uL|uE|uK=>k_is))
  (case d12|d41|d42=>refine' My.dmk KX G ?uA ?uL ?uE ?uK (fun _ _ _ _ _ _ us hl=>by obtain ⟨_,_,_,_,rfl⟩:=My.lenE4 us hl;rfl);(case uA|uL|uE|uK=>k_is))
  (case d19|d20|d33=>refine' My.mmk (Lw.ac_cons ⟨?uA0,?uI0,?uJ0⟩ Lw.ac_nil) Lw.ac_nil ?uL ?uE ?uK (fun _ _ _ _ _ _ us hl=>by obtain ⟨_,rfl⟩:=My.lenE1 us hl;rfl);(case uA0|uI0|uJ0|uL|uE|uK=>first|k_is|kernel_rfl))
  (case d16|d17|d18|d21=>refine' My.mmk (Lw.ac_cons ⟨?uA0,?uI0,?uJ0⟩ Lw.ac_nil) Lw.ac_nil ?uL ?uE ?uK (fun _ _ _ _ _ _ us hl=>by obtain ⟨_,_,rfl⟩:=My.lenE2 us hl;rfl);(case uA0|uI0|uJ0|uL|uE|uK=>first|k_is|kernel_rfl))
  (case d31=>refine' My.mmk (Lw.ac_cons ⟨?uA0,?uI0,?uJ0⟩ Lw.ac_nil) Lw.ac_nil ?uL ?uE ?uK (fun _ _ _ _ _ _ us hl=>by obtain ⟨_,_,_,rfl⟩:=My.lenE3 us hl;rfl);(case uA0|uI0|uJ0|uL|uE|uK=>first|k_is|kernel_rfl))
  (case d30=>refine' My.mmk (Lw.ac_cons ⟨?uA0,?uI0,?uJ0⟩ Lw.ac_nil) Lw.ac_nil ?uL ?uE ?uK (fun _ _ _ _ _ _ us hl=>by obtain ⟨_,_,_,_,rfl⟩:=My.lenE4 us hl;rfl);(case uA0|uI0|uJ0|uL|uE|uK=>first|k_is|kernel_rfl))
  (case d32=>refine' My.mmk (Lw.ac_cons ⟨?uA0,?uI0,?uJ0⟩ Lw.ac_nil) Lw.ac_nil ?uL ?uE ?uK (fun _ _ _ _ _ _ us hl=>by obtain ⟨_,_,_,_,_,rfl⟩:=My.lenE5 us hl;rfl);(case uA0|uI0|uJ0|uL|uE|uK=>first|k_is|kernel_rfl))
  (case a8|l8|e8|k8=>k_is)
  (case a44|l44|e44|k44=>k_is)
  (case t1=>k_is)
  (case t2=>exact rfl)
  (case t3|t4=>kernel_rfl)
  (case t8=>exact List.mem_singleton.mpr rfl)
  (case n_ValueError|n_abs|n_all|n_bool|n_dict|n_int|n_isinstance|n_len|n_list|n_max|n_min|n_range|n_set|n_sorted|n_tuple|n_zip=>refine' PySem.W.mg_none_of KX G ?_;k_is)
  (case v_FIRST_ROW=>refine' ⟨_,PySem.W.mg_of KX G ?uP,rfl⟩;(case uP=>k_is))
  (case w_FIRST_ROW=>refine' My.tup_mk ?uP ?uH ?uQ;(case uP=>k_is);(case uH=>show 2≤sizeLine;decide);(case uQ=>exact (Paired.cons ⟨_,rfl⟩ (Paired.cons rfl Paired.nil))))
  (case w_FIRST_ROW_1=>refine' My.tup_mk ?uP ?uH ?uQ;(case uP=>k_is);(case uH=>show 2≤sizeLine;decide);(case uQ=>exact (Paired.cons ⟨_,rfl⟩ (Paired.cons ⟨_,rfl⟩ Paired.nil))))
  (case v_LAST_FROM=>refine' ⟨_,PySem.W.mg_of KX G ?uP,?uQ⟩;(case uP=>k_is);(case uQ=>exact ⟨_,rfl⟩))
  (case v_MOST_GAMES=>refine' ⟨_,PySem.W.mg_of KX G ?uP,?uQ⟩;(case uP=>k_is);(case uQ=>exact ⟨_,rfl⟩))
  (case v_MOST_PART=>refine' ⟨_,PySem.W.mg_of KX G ?uP,?uQ⟩;(case uP=>k_is);(case uQ=>exact ⟨_,rfl⟩))
  (case v_MOST_PLAYERS=>refine' ⟨_,PySem.W.mg_of KX G ?uP,?uQ⟩;(case uP=>k_is);(case uQ=>exact ⟨_,rfl⟩))
  (case v_MOST_ROWS=>refine' ⟨_,PySem.W.mg_of KX G ?uP,?uQ⟩;(case uP=>k_is);(case uQ=>exact ⟨_,rfl⟩))
#print axioms PySem.Challenge.cw_ladderworth_k52_what_a_ledger_refuses_holds
