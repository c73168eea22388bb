import PyProof.Rows.All
import Wide.All
import OpenK.AllK
import Wide.FinOn
import Lean
import PyProof.EqAt
import PyProof.EqKinds
import PyProof.TupleCall
import PyProof.Cells
import PyProof.AutoSeq1
import PyProof.MaxThree
import KE.KSortTup
import KE.KDflt
import PyProof.ListOps
import PyProof.AttrMissHeap
import PyProof.FactsAll.zip
import KE.KItemsList
import PyProof.DictUpdate
import PyProof.NeKinds
import PySem.Challenge.RW_ladderworth_k56_whole_the_book_alone
set_option linter.all false
set_option maxRecDepth 100000
set_option Elab.async false
set_option maxHeartbeats 4000000
local macro_rules | `(tactic| trivial) => `(tactic| first | exact .inl rfl | exact .inr rfl | assumption)
namespace L2
open PySem PySem.Spec PyProof.Rows
abbrev B4:=Sum Int Str
def K0:B4→Value→Bool
 |.inl k,v=>Value.isInt k v
 |.inr x,v=>Value.isStrOf x v
def Alw (w:World):B4→Int
 |.inl k=>hashInt k
 |.inr x=>hashStr w x
theorem Bj:∀{k:B4} {v:Value},K0 k v=true→(∃i t,k=Sum.inl i∧v=Value.int i t)∨(∃x t,k=Sum.inr x∧v=Value.str x t)
 |.inl i,v,h=>by
  obtain ⟨t,e⟩:=Value.isInt_shape (k:=i) (v:=v) h
  exact .inl ⟨i,t,rfl,e⟩
 |.inr x,v,h=>by
  obtain ⟨t,e⟩:=Value.isStrOf_shape (x:=x) (v:=v) h
  exact .inr ⟨x,t,rfl,e⟩
theorem Yq (i:Int)(t:Tok):K0 (.inl i) (.int i t)=true:=by simp [K0,Value.isInt]
theorem Yg (x:Str)(t:Tok):K0 (.inr x) (.str x t)=true:=by simp [K0,Value.isStrOf]
theorem Aft (a b:Int):decide ((Sum.inl a:B4)=Sum.inl b)=(a==b):=by
 by_cases e:a=b
 ·subst e;simp
 ·have h:¬(Sum.inl a:B4)=Sum.inl b:=fun q=>e (Sum.inl.inj q)
  rw [decide_eq_false h]
  exact (beq_eq_false_iff_ne.mpr e).symm
theorem Ahe (a b:Str):decide ((Sum.inr a:B4)=Sum.inr b)=decide (a=b):=by
 by_cases e:a=b
 ·subst e;simp
 ·have h:¬(Sum.inr a:B4)=Sum.inr b:=fun q=>e (Sum.inr.inj q)
  rw [decide_eq_false h,decide_eq_false e]
theorem Afy (a:Int)(b:Str):decide ((Sum.inl a:B4)=Sum.inr b)=false:=decide_eq_false (fun q=>nomatch q)
theorem Ag4 (a:Str)(b:Int):decide ((Sum.inr a:B4)=Sum.inl b)=false:=decide_eq_false (fun q=>nomatch q)
def A9 (prog:Program)(w:World):PySem.KeyKind prog w B4 where
 is:=K0
 hash:=Alw w
 inj:=fun v a b ha hb=>by
  rcases Bj ha with ⟨i,t,rfl,rfl⟩|⟨x,t,rfl,rfl⟩
  ·rcases Bj hb with ⟨j,u,rfl,e⟩|⟨y,u,rfl,e⟩
   ·injection e with e1 _;rw [e1]
   ·exact nomatch e
  ·rcases Bj hb with ⟨j,u,rfl,e⟩|⟨y,u,rfl,e⟩
   ·exact nomatch e
   ·injection e with e1 _;rw [e1]
 byValue:=fun k v h=>by
  rcases Bj h with ⟨i,t,rfl,rfl⟩|⟨x,t,rfl,rfl⟩<;>rfl
 pyHash:=fun hv h=>by
  rcases Bj hv with ⟨i,t,rfl,rfl⟩|⟨x,t,rfl,rfl⟩
  ·exact wpAny_pyHash_int h
  ·exact wpAny_pyHash_str h
 eqBool:=fun hu hv h=>by
  rcases Bj hu with ⟨i,t,rfl,rfl⟩|⟨x,t,rfl,rfl⟩
  ·rcases Bj hv with ⟨j,u,rfl,rfl⟩|⟨y,u,rfl,rfl⟩
   ·rw [Aft] at h;exact wpAny_eqBool_int h
   ·rw [Afy] at h;exact SeqAt.EqAt.int_str i t y u _ _ _ _ h
  ·rcases Bj hv with ⟨j,u,rfl,rfl⟩|⟨y,u,rfl,rfl⟩
   ·rw [Ag4] at h;exact SeqAt.EqAt.str_int x t j u _ _ _ _ h
   ·rw [Ahe] at h;exact wpAny_eqBool_str h
 «strs»:=fun k x t v h=>by
  rcases Bj h with ⟨i,u,rfl,e⟩|⟨y,u,rfl,e⟩
  ·exact nomatch e
  ·injection e with e1 _
   subst e1
   cases v<;>rfl
theorem Sf (prog:Program)(w:World)(i:Int)(t:Tok):(A9 prog w).is (.inl i) (.int i t)=true:=Yq i t
theorem Tu (prog:Program)(w:World)(x:Str)(t:Tok):(A9 prog w).is (.inr x) (.str x t)=true:=Yg x t
end L2
namespace L2
open PySem PySem.Spec PyProof.Rows
inductive V where
 |non|bl (b:Bool)|int (i:Int)|str (x:Str)|byt (b:Array UInt8)|flt (b:UInt64)|ref (a:Addr)|ty (n:String)
 deriving DecidableEq
def RelV:V→Value→Prop
 |.non,u=>u=Value.none
 |.bl b,u=>u=Value.bool b
 |.int i,u=>∃t,u=Value.int i t
 |.str x,u=>∃t,u=Value.str x t
 |.byt b,u=>∃t,u=Value.bytes b t
 |.flt b,u=>∃t,u=Value.float b t
 |.ref a,u=>u=Value.ref a
 |.ty n,u=>u=Value.type n
abbrev A4:List V→List Value→Prop:=Paired RelV
theorem A4.length {xs:List V}{us:List Value}(r:A4 xs us):xs.length=us.length:=Paired.length r
theorem A4.get:∀{xs:List V} {us:List Value} {i:Nat} {x:V},A4 xs us→xs[i]? =some x→∃u,us[i]? =some u∧RelV x u
 |_,_,_,_,.nil,e=>by simp at e
 |_,_,0,_,.cons r _,e=>by simp at e;subst e;exact ⟨_,rfl,r⟩
 |_,_,i+1,x,.cons _ t,e=>by
  obtain ⟨u,h1,h2⟩:=A4.get (i:=i) (x:=x) t (by simpa using e)
  exact ⟨u,by simpa using h1,h2⟩
theorem A4.append:∀{xs ys:List V} {us ws:List Value},A4 xs us→A4 ys ws→A4 (xs++ys) (us++ws)
 |_,_,_,_,.nil,s=>s
 |_,_,_,_,.cons r t,s=>.cons r (A4.append t s)
theorem A4.take:∀{xs:List V} {us:List Value} (n:Nat),A4 xs us→A4 (xs.take n) (us.take n)
 |_,_,0,_=>.nil
 |_,_,_+1,.nil=>.nil
 |_,_,n+1,.cons r t=>.cons r (A4.take n t)
theorem A4.drop:∀{xs:List V} {us:List Value} (n:Nat),A4 xs us→A4 (xs.drop n) (us.drop n)
 |_,_,0,r=>r
 |_,_,_+1,.nil=>.nil
 |_,_,n+1,.cons _ t=>A4.drop n t
def F5:Option V→Option Value→Prop
 |some v,some u=>RelV v u
 |none,none=>True
 |_,_=>False
def KV {κ:Type}:List (κ×V)→List (κ×Value)→Prop:=Paired fun (p:κ×V) (q:κ×Value)=>p.1=q.1∧RelV p.2 q.2
def kV:B4→V
 |.inl i=>.int i
 |.inr x=>.str x
inductive HO where
 |lst (xs:List V)
 |tup (xs:List V)
 |dK (kvs:List (B4×V))|dT (kvs:List (List B4×V))
 |set (S:Int→Bool) (n:Nat)
 |ins (C dx:Addr) (fs:List (Str×V))
 |own (x:Addr)
 |xd (fs:List (Str×V))
 |met (f x:Addr)
 |rng (lo hi:Int)
 |frz (o:Obj) (u:HO)
 |tbl (ps:Array Value)
 |ext (φ:Heap→Prop)
abbrev Hp:=Addr→Option HO
def upd (H:Hp)(a:Addr)(o:HO):Hp:=fun b=>if b=a then some o else H b
theorem Ad {H:Hp}{a:Addr}{o:HO}:upd H a o a=some o:=by unfold upd;rw [if_pos rfl]
theorem Ak {H:Hp}{a b:Addr}{o:HO}(h:b≠a):upd H a o b=H b:=by unfold upd;rw [if_neg h]
theorem Qa {H:Hp}{a:Addr}{o u:HO}:upd (upd H a o) a u=upd H a u:=by
 funext b;unfold upd;split<;>rfl
theorem Aj3 {H:Hp}{a b:Addr}{o u:HO}(h:H a=some o)(h':H b=some u)(d:o≠u):a≠b:=by
 intro e;subst e;rw [h] at h';exact d (Option.some.inj h')
theorem Bh {H:Hp}{a b:Addr}{o:HO}(h:H a=some o)(h':H b=none):a≠b:=by
 intro e;subst e;rw [h] at h';cases h'
section
variable (P:Program)(w:World)
def Bb (H:Hp)(h:Heap)(a:Addr):HO→Prop
 |.lst xs=>xs.length≤sizeLine∧∃(its:List Value) (n:Nat),A4 xs its∧h.get? a=some { cls:=.type "list",data:=.seq its.toArray n }
 |.tup xs=>xs.length≤sizeLine∧∃its:List Value,A4 xs its∧IsTup h a its.toArray
 |.dK kvs=>kvs.length≤sizeLine∧(a==sysModules)=false∧∃vs,KV kvs vs∧h.DictOf (A9 P w) a vs
 | .dT kvs=>kvs.length≤sizeLine∧(a==sysModules)=false∧∃xs:List (List B4×Addr×Value),
   Paired (fun (p:List B4×V) (q:List B4×Addr×Value)=>p.1=q.1∧H q.2.1=some (.tup (p.1.map kV))∧RelV p.2 q.2.2) kvs xs ∧
   ∃o es ep,h.get? a=some o∧o.ExactDict∧o.data=.dict es ep∧es.toList=xs.map (entryOfKey (tupleKind (A9 P w)))∧(xs.map (·.1)).Nodup
 |.set S n=>h.SetOf (intKind P w) a S n
 | .ins C dx fs=>H dx=some (.own a)∧fs.length≤1000∧dx≠a∧h.get? a=some (PySem.W.instObj C dx) ∧
   ∃mA,h.Ns1 dx mA∧(∀f,F5 (fs.lookup f) (mA f))∧PySem.Within mA (fs.map (·.1))
 |.own _=>∃o,h.get? a=some o
 |.xd fs=>∃mA,h.Ns1 a mA∧∀f,F5 (fs.lookup f) (mA f)
 |.rng lo hi=>∃t u v,h.get? a=some { cls:=.type "range",data:=.fields #[.int lo t,.int hi u,.int 1 v] }
 |.frz o u=>h.get? a=some o∧Bb H h a u
 |.tbl ps=>h.get? a=some { cls:=.none,data:=.fields ps }
 |.met f x=>h.get? a=some (PySem.W.methodObj (.ref f) (.ref x))
 |.ext φ=>φ h∧(∃o,h.get? a=some o)∧∀h1 h2:Heap,φ h1→(∀o,h1.get? a=some o→h2.get? a=some o)→φ h2
def Hl (H:Hp)(h:Heap):Prop:=∀a o,H a=some o→Bb P w H h a o
end
section
variable {P:Program}{w:World}{H H':Hp}{h h':Heap}{a:Addr}{o:HO}
theorem Bb.lt (x:Bb P w H h a o):a<h.objs.size:=by
 cases o with
 |lst xs=>obtain ⟨_,_,_,_,e⟩:=x;exact Heap.lt_size e
 |tup xs=>obtain ⟨_,_,_,p⟩:=x;exact p.lt
 |dK kvs=>obtain ⟨_,_,_,_,o,_,_,e,_⟩:=x;exact Heap.lt_size e
 |dT kvs=>obtain ⟨_,_,_,_,o,_,_,e,_⟩:=x;exact Heap.lt_size e
 |set S n=>obtain ⟨o,_,_,_,e,_⟩:=x;exact Heap.lt_size e
 |ins C dx fs=>obtain ⟨_,_,_,e,_⟩:=x;exact Heap.lt_size e
 |own y=>obtain ⟨_,e⟩:=x;exact Heap.lt_size e
 |xd fs=>obtain ⟨_,⟨_,_,_,e,_⟩,_⟩:=x;exact Heap.lt_size e
 |rng lo hi=>obtain ⟨_,_,_,e⟩:=x;exact Heap.lt_size e
 |frz ob u=>obtain ⟨e,_⟩:=x;exact Heap.lt_size e
 |tbl ps=>exact Heap.lt_size (show h.get? a=some _ from x)
 |met f y=>exact Heap.lt_size (show h.get? a=some _ from x)
 |ext φ=>obtain ⟨_,⟨_,e⟩,_⟩:=x;exact Heap.lt_size e
theorem Paired.mapP {α β:Type}{F G:α→β→Prop}:∀{l₁:List α} {l₂:List β},Paired F l₁ l₂→(∀a b,F a b→G a b)→Paired G l₁ l₂
 |_,_,.nil,_=>.nil
 |_,_,.cons r t,f=>.cons (f _ _ r) (Paired.mapP t f)
theorem Bb.stay (x:Bb P w H h a o)(k:∀b u,(b=a∨H b=some (.own a))→h.get? b=some u→h'.get? b=some u)
  (ho:∀b,H b=some (.own a)→H' b=some (.own a)) (ht:∀b xs,H b=some (.tup xs)→H' b=some (.tup xs)):Bb P w H' h' a o:=by
 induction o with
 |lst xs=>obtain ⟨z,its,n,r,e⟩:=x;exact ⟨z,its,n,r,k _ _ (.inl rfl) e⟩
 |tup xs=>obtain ⟨z,its,r,ob,e,c⟩:=x;exact ⟨z,its,r,ob,k _ _ (.inl rfl) e,c⟩
 |dK kvs=>obtain ⟨z,y,vs,r,ob,es,ep,e,c⟩:=x;exact ⟨z,y,vs,r,ob,es,ep,k _ _ (.inl rfl) e,c⟩
 |dT kvs=>
  obtain ⟨z,y,xs,r,ob,es,ep,e,c⟩:=x
  exact ⟨z,y,xs,Paired.mapP r fun p q z=>⟨z.1,ht _ _ z.2.1,z.2.2⟩,ob,es,ep,k _ _ (.inl rfl) e,c⟩
 |set S n=>obtain ⟨ob,es,ep,t,e,c⟩:=x;exact ⟨ob,es,ep,t,k _ _ (.inl rfl) e,c⟩
 |ins C dx fs=>
  obtain ⟨d,z,ne,e,mA,⟨od,es,ep,e2,c⟩,r⟩:=x
  exact ⟨ho _ d,z,ne,k _ _ (.inl rfl) e,mA,⟨od,es,ep,k _ _ (.inr d) e2,c⟩,r⟩
 |own y=>obtain ⟨ob,e⟩:=x;exact ⟨ob,k _ _ (.inl rfl) e⟩
 |xd fs=>obtain ⟨mA,⟨od,es,ep,e,c⟩,r⟩:=x;exact ⟨mA,⟨od,es,ep,k _ _ (.inl rfl) e,c⟩,r⟩
 |rng lo hi=>obtain ⟨t,u,v,e⟩:=x;exact ⟨t,u,v,k _ _ (.inl rfl) e⟩
 |frz ob u ih=>obtain ⟨e,q⟩:=x;exact ⟨k _ _ (.inl rfl) e,ih q⟩
 |tbl ps=>
  have e:h.get? a=some { cls:=.none,data:=.fields ps }:=x
  show h'.get? a=some { cls:=.none,data:=.fields ps }
  exact k a _ (.inl rfl) e
 |met f y=>
  have e:h.get? a=some (PySem.W.methodObj (.ref f) (.ref y)):=x
  show h'.get? a=some (PySem.W.methodObj (.ref f) (.ref y))
  exact k a _ (.inl rfl) e
 |ext φ=>obtain ⟨p,⟨o,e⟩,st⟩:=x;exact ⟨st _ _ p fun o q=>k _ _ (.inl rfl) q,⟨o,k _ _ (.inl rfl) e⟩,st⟩
theorem Hl.lt (x:Hl P w H h)(e:H a=some o):a<h.objs.size:=(x a o e).lt
theorem Hl.fresh (x:Hl P w H h)(e:h.objs.size≤a):H a=none:=by
 cases q:H a with
 |none=>rfl
 |some u=>exact absurd (Nat.lt_of_lt_of_le (x.lt q) e) (Nat.lt_irrefl _)
theorem Hl.kept (x:Hl P w H h)(k:∀b u,h.get? b=some u→h'.get? b=some u):Hl P w H h':=fun a o e=>
 (x a o e).stay (fun b u _ q=>k b u q) (fun _ q=>q) fun _ _ q=>q
theorem Hl.laid (x:Hl P w H h)(k:∀b u,h.get? b=some u→h'.get? b=some u)(hp:h.objs.size≤a)(new:Bb P w (upd H a o) h' a o):Hl P w (upd H a o) h':=fun b u e=>by
 have hn:=x.fresh hp
 by_cases hb:b=a
 ·subst hb;rw [Ad] at e;cases e;exact new
 ·rw [Ak hb] at e
  exact (x b u e).stay (fun c v _ q=>k c v q) (fun c q=>by rw [Ak (Bh q hn)];exact q) fun c xs q=>by rw [Ak (Bh q hn)];exact q
end
def Rd (H:Hp)(a:Addr)(u:HO):Prop:=H a=some u∨∃o,H a=some (.frz o u)
theorem Rd.ok {P:Program}{w:World}{H:Hp}{h:Heap}{a:Addr}{u:HO}(r:Rd H a u)(x:Hl P w H h):Bb P w H h a u:=by
 rcases r with r|⟨o,r⟩
 ·exact x a u r
 ·obtain ⟨_,q⟩:=x a _ r
  exact q
def Mut:Option HO→Prop
 |some (.lst _)=>True
 |some (.dK _)=>True
 |some (.dT _)=>True
 |some (.set _ _)=>True
 |some (.ins _ _ _)=>True
 |some (.ext _)=>True
 |_=>False
section
variable {P:Program}{w:World}{H:Hp}{h h':Heap}{x e:Addr}{o':HO}
theorem Hl.write (ok:Hl P w H h)(mu:Mut (H x))(he:e=x∨H e=some (.own x))(k:∀b u,b≠e→h.get? b=some u→h'.get? b=some u)(heo:∃u,h'.get? e=some u)
  (new:Bb P w (upd H x o') h' x o'):Hl P w (upd H x o') h':=fun b u q=>by
 have nown:∀c y,H c=some (.own y)→c≠x:=fun c y r z=>by subst z;rw [r] at mu;exact mu
 have ntup:∀c xs,H c=some (.tup xs)→c≠x:=fun c xs r z=>by subst z;rw [r] at mu;exact mu
 by_cases hb:b=x
 ·subst hb;rw [Ad] at q;cases q;exact new
 ·rw [Ak hb] at q
  by_cases hbe:b=e
  ·have q':H b=some (.own x):=by
    rcases he with z|z
    ·exact absurd (hbe.trans z) hb
    ·rw [hbe];exact z
   rw [q] at q';cases q'
   obtain ⟨v,hv⟩:=heo
   exact ⟨v,by rw [hbe];exact hv⟩
  ·refine (ok b u q).stay (fun c v hc r=>k c v ?_ r) (fun c r=>by rw [Ak (nown c b r)];exact r) fun c xs r=>by rw [Ak (ntup c xs r)];exact r
   rcases hc with rfl|hc
   ·exact hbe
   ·rintro rfl
    rcases he with z|z
    ·exact nown c b hc z
    ·rw [hc] at z;cases z;exact hb rfl
end
structure Un (fs ex:List Addr)(H H':Hp)(h h':Heap):Prop where
 keep:∀b o,h.get? b=some o→H b=none→b∉fs→b∉ex→h'.get? b=some o
 slot:∀b o,h.get? b=some o→H b=none→b∈fs→b∉ex→∃sl,h'.get? b=some { o with slots:=sl }
 free:∀b o,h.get? b=some o→H b=none→b∉ex→H' b=none
 there:∀b o,h.get? b=some o→b∉ex→∃o',h'.get? b=some o'
 tups:∀b xs,H b=some (.tup xs)→H' b=some (.tup xs)
 frzs:∀b o u,H b=some (.frz o u)→H' b=some (.frz o u)
 tbls:∀b ps,H b=some (.tbl ps)→∃more,H' b=some (.tbl (ps++more))
section
variable {fs fs' ex ex':List Addr}{H H1 H2:Hp}{h h1 h2 h':Heap}{a x e:Addr}{o:HO}
theorem Un.any (u:Un fs ex H H1 h h1){b:Addr}{ob:Obj}(q:h.get? b=some ob)(n:H b=none)(hx:b∉ex):∃sl,h1.get? b=some { ob with slots:=sl }:=by
 by_cases hb:b∈fs
 ·exact u.slot b ob q n hb hx
 ·exact ⟨ob.slots,u.keep b ob q n hb hx⟩
theorem Un.kept (k:∀b u,h.get? b=some u→h'.get? b=some u):Un fs ex H H h h' :=
 ⟨fun b ob q _ _ _=>k b ob q,fun b ob q _ _ _=>⟨ob.slots,k b ob q⟩,fun _ _ _ n _=>n,fun b ob q _=>⟨ob,k b ob q⟩,fun _ _ q=>q,fun _ _ _ q=>q,fun _ ps q=>⟨#[],by rw [q];simp⟩⟩
theorem Un.refl:Un fs ex H H h h:=Un.kept fun _ _ q=>q
theorem Un.laid (k:∀b u,h.get? b=some u→h'.get? b=some u)(hp:h.objs.size≤a)(hn:H a=none):Un fs ex H (upd H a o) h h' where
 keep:=fun b u q _ _ _=>k b u q
 slot:=fun b u q _ _ _=>⟨u.slots,k b u q⟩
 free:=fun b u q n _=>by rw [Ak (Nat.ne_of_lt (Nat.lt_of_lt_of_le (Heap.lt_size q) hp))];exact n
 there:=fun b u q _=>⟨u,k b u q⟩
 tups:=fun b xs q=>by rw [Ak (Bh q hn)];exact q
 frzs:=fun b u xs q=>by rw [Ak (Bh q hn)];exact q
 tbls:=fun b ps q=>⟨#[],by rw [Ak (Bh q hn),q];simp⟩
theorem Un.write (mu:Mut (H x))(he:e=x∨H e=some (.own x))(k:∀b u,b≠e→h.get? b=some u→h'.get? b=some u)(heo:∃u,h'.get? e=some u):Un fs ex H (upd H x o) h h':=by
 have hx:∀b,H b=none→b≠x:=fun b n z=>by subst z;rw [n] at mu;exact mu
 have hb:∀b,H b=none→b≠e:=fun b n z=>by
  subst z
  rcases he with r|r
  ·exact hx b n r
  ·rw [n] at r;cases r
 have hm:∀b u,H b=some u→¬Mut (some u)→b≠x:=fun b u q nm z=>by subst z;rw [q] at mu;exact nm mu
 refine ⟨fun b u q n _ _=>k b u (hb b n) q,fun b u q n _ _=>⟨u.slots,k b u (hb b n) q⟩,fun b u q n _=>by rw [Ak (hx b n)];exact n,fun b u q _=>?_,
  fun b xs q=>by rw [Ak (hm b _ q fun z=>z)];exact q,fun b u xs q=>by rw [Ak (hm b _ q fun z=>z)];exact q,fun b ps q=>⟨#[],by rw [Ak (hm b _ q fun z=>z),q];simp⟩⟩
 by_cases hbe:b=e
 ·subst hbe;exact heo
 ·exact ⟨u,k b u hbe q⟩
end
def trk (h:Heap)(H:Hp):List Addr:=(List.range h.objs.size).filter fun a=>(H a).isSome
def Qc (h:Heap)(H:Hp):Heap:=PySem.W.hideAll h (trk h H)
theorem X6 (h:Heap)(H:Hp):(Qc h H).objs.size=h.objs.size:=PySem.W.hideAll_size _ _
theorem Na {h:Heap}{H:Hp}{b:Addr}{o:Obj}(e:h.get? b=some o)(n:H b=none):(Qc h H).get? b=some o:=
 PySem.W.hideAll_get _ e fun hm=>by
  have q:(H b).isSome=true:=(List.mem_filter.mp hm).2
  rw [n] at q;simp at q
theorem Acl {h:Heap}{H:Hp}{b:Addr}{o:Obj}(e:(Qc h H).get? b=some o):h.get? b=some o∧H b=none:=by
 have e':h.get? b=some o:=PySem.W.of_hideAll (trk h H) e
 refine ⟨e',?_⟩
 cases q:H b with
 |none=>rfl
 |some x=>
  have hm:b∈trk h H:=List.mem_filter.mpr ⟨List.mem_range.mpr (Heap.lt_size e'),by simp [q]⟩
  have z:(Qc h H).get? b=none:=PySem.W.hideAll_none (trk h H) hm
  rw [z] at e;cases e
def Ad5 (g h:Heap)(L:Addr):List (Addr×Obj):=(List.range h.objs.size).filterMap fun a=>if a=L∨(g.get? a).isSome=true then none else (h.get? a).map fun o=>(a,o)
def Em (g h:Heap)(L d:Addr):List (Addr×Obj):=(Ad5 g h L).filter fun p=>decide (p.1≠d)
end L2
namespace L2
open PySem PySem.Spec PyProof.Rows
structure Mod (K:PySem.W.Frag)(mg:Str→Option Value)(base:Heap):Prop where
 kin:K.In base
 glob:base.Ns mainGlobals mg
 blt:∃mb,base.Ns builtinsNs mb∧∀x:Str,x≠"__name__"→mb x=bootBuiltins x
 nolimit:base.NoLimit
/-- the context: a def's body (or a comprehension's block) running. base: fixed through the whole law;s₀,H₀: the entry;outer: the frames whose slots others may change (a def's callers);stack: all frames that run;
   ex: iterators that were made ahead of the entry and are walked here (a comprehension's);fn: the names whose cells were made at the entry (a def: all;a comprehension's block: its own);calm: not within an except suite;pn: pins that every state bears;xe: what is wanted of an exception that leaves the code -/
structure Cx where
 prog:Program
 w:World
 K:PySem.W.Frag
 mg:Str→Option Value
 base:Heap
 A:Around
 N:List Str
 s₀:Shared
 H₀:Hp
 env:Env
 outer:List Env
 stack:List Env
 ex:List Addr
 fn:Str→Bool
 calm:Bool
 pn:List (Addr×Obj)
 xe:Value→Shared→Prop
def Kr (l:List Env):List Addr:=l.filterMap (·.frame)
abbrev Cx.fs (X:Cx):List Addr:=Kr X.outer
def Vis (sc:Scope)(x:Str):Prop:=sc.names.lookup x=some .local∨sc.names.lookup x=some .cell∨sc.names.lookup x=some .free
def Loc (sc:Scope)(x:Str):Prop:=sc.names.lookup x=some .local∨sc.names.lookup x=some .cell
def Agt (env:Env)(h:Heap)(m:Str→Option Value)(x:Str)(u:Value):Prop:=
 (env.kindOf x=some .local∧m x=some u)∨((env.kindOf x=some .cell∨env.kindOf x=some .free)∧∃c,env.cells.lookup x=some c∧h.IsCell c (some u))
structure Cx.Ok (X:Cx):Prop where
 mod:Mod X.K X.mg X.base
 kind:X.env.scope.kind=.function
 glob:X.env.globals=mainGlobals
 blt:X.env.builtins=builtinsNs
 above:X.s₀.heap.objs.size≤X.env.locals
 inj:∀x y c,X.env.cells.lookup x=some c→X.env.cells.lookup y=some c→x=y
 has:∀x,(X.env.kindOf x=some .cell∨X.env.kindOf x=some .free)→∃c,X.env.cells.lookup x=some c
 cab:∀x c,X.fn x=true→X.env.cells.lookup x=some c→X.s₀.heap.objs.size≤c
 hd:X.calm=true→X.A.handled=none
 frames:X.A.frames=some X.stack
 stk:X.stack=X.outer∨(X.stack=X.env::X.outer∧X.env.frame=some X.env.locals)
 exf:∀b∈X.ex,b≠X.env.locals∧∀x c,X.env.cells.lookup x=some c→c≠b
 bs:∀b o,X.base.get? b=some o→X.s₀.heap.get? b=some o∧X.H₀ b=none
 bsz:X.base.objs.size≤X.s₀.heap.objs.size
 noex:∀b o,X.base.get? b=some o→b∉X.ex
 exfs:∀b∈X.ex,b∉X.fs
 funs:X.s₀.heap.FunFrames X.base X.outer
 frf:∀b∈X.fs,X.H₀ b=none
structure Ar (X:Cx)(pins:List (Addr×Obj))(σ:List (Option V))(H:Hp)(s:Shared):Prop where
 ok:X.Ok
 os:s.os=X.s₀.os
 bare:AllBare s.gens
 base:Un X.fs X.ex X.H₀ H X.s₀.heap s.heap
 loc:∃m,s.heap.Ns X.env.locals m∧∀(i:Nat) (x:Str) (v:V),X.N[i]? =some x→σ[i]? =some (some v)→Vis X.env.scope x→∃u,RelV v u∧Agt X.env s.heap m x u
 cell:∀x c,X.env.cells.lookup x=some c→∃v,s.heap.IsCell c v
 free:H X.env.locals=none
 freeC:∀x c,X.env.cells.lookup x=some c→H c=none
 pin:∀p∈X.pn++pins,s.heap.get? p.1=some p.2∧H p.1=none∧p.1≠X.env.locals∧p.1∉X.fs∧∀v,p.2.data≠.cell v
 hok:Hl X.prog X.w H s.heap
 len:σ.length=X.N.length
section
variable {X:Cx}{pins:List (Addr×Obj)}{σ:List (Option V)}{H H':Hp}{s:Shared}{h':Heap}
theorem Cx.Ok.nofr (ok:X.Ok){b:Addr}{o:Obj}(e:X.base.get? b=some o):b∉X.fs:=fun hb=>by
 have:=(ok.funs.mem hb).1
 rw [e] at this;cases this
theorem Ar.bs (I:Ar X pins σ H s):∀b o,X.base.get? b=some o→s.heap.get? b=some o∧H b=none:=fun b o e=>
 ⟨I.base.keep b o (I.ok.bs b o e).1 (I.ok.bs b o e).2 (I.ok.nofr e) (I.ok.noex b o e),I.base.free b o (I.ok.bs b o e).1 (I.ok.bs b o e).2 (I.ok.noex b o e)⟩
theorem Ar.bk (I:Ar X pins σ H s):∀b o,X.base.get? b=some o→s.heap.get? b=some o:=fun b o e=>(I.bs b o e).1
theorem Ar.mod (I:Ar X pins σ H s):Mod X.K X.mg X.base:=I.ok.mod
theorem Ar.kIn (I:Ar X pins σ H s):X.K.In s.heap:=I.ok.mod.kin.keeps I.bk
theorem Ar.nolimit (I:Ar X pins σ H s):s.heap.NoLimit:=I.ok.mod.nolimit.keeps I.bk
theorem Ar.lt (I:Ar X pins σ H s):X.env.locals<s.heap.objs.size:=let ⟨_,hn,_⟩:=I.loc;hn.lt
theorem Ar.sz (I:Ar X pins σ H s):X.s₀.heap.objs.size≤s.heap.objs.size:=Nat.le_trans I.ok.above (Nat.le_of_lt I.lt)
theorem Ar.nofs (I:Ar X pins σ H s){a:Addr}(h:s.heap.objs.size≤a):a∉X.fs:=fun hb=>by
 obtain ⟨_,o,ho,_⟩:=I.ok.funs.mem hb
 exact absurd (Nat.lt_of_lt_of_le (Heap.lt_size ho) (Nat.le_trans I.sz h)) (Nat.lt_irrefl _)
theorem Ar.cne (I:Ar X pins σ H s):∀x c,X.env.cells.lookup x=some c→c≠X.env.locals:=fun x c e z=>by
 obtain ⟨v,o,ho,hd⟩:=I.cell x c e
 obtain ⟨m,⟨o',es,ep,ho',hd',_⟩,_⟩:=I.loc
 rw [z,ho'] at ho;cases ho;rw [hd'] at hd;cases hd
theorem Ar.funs (I:Ar X pins σ H s):s.heap.FunFrames X.base X.outer:=by
 have all:∀(l:List Env),(∀b∈Kr l,b∈X.fs)→X.s₀.heap.FunFrames X.base l→s.heap.FunFrames X.base l:=by
  intro l
  induction l with
  |nil=>intro _ _;trivial
  |cons env r ih=>
   intro hs hl
   obtain ⟨hk,⟨L,o,hf,hn,ho,hd⟩,hr⟩:=hl
   have hL:L∈X.fs:=hs L (by unfold Kr;rw [List.filterMap_cons,hf];exact List.mem_cons_self)
   obtain ⟨sl,e⟩:=I.base.slot L o ho (I.ok.frf L hL) hL fun z=>I.ok.exfs L z hL
   exact ⟨hk,⟨L,_,hf,hn,e,hd⟩,ih (fun b hb=>hs b (by unfold Kr;rw [List.filterMap_cons,hf];exact List.mem_cons_of_mem _ hb)) hr⟩
 exact all X.outer (fun _ hb=>hb) I.ok.funs
theorem Ar.stack (I:Ar X pins σ H s):s.heap.FunFrames X.base X.stack:=by
 rcases I.ok.stk with e|⟨e,hf⟩
 ·rw [e];exact I.funs
 ·rw [e]
  obtain ⟨m,hn,_⟩:=I.loc
  refine .cons (by rw [I.ok.kind];decide) hf hn ?_ I.funs
  exact Heap.get?_none_of_le (Nat.le_trans I.ok.bsz I.ok.above)
theorem Ar.stkSub (I:Ar X pins σ H s):∀b∈Kr X.stack,b∈X.env.locals::X.fs:=fun b hb=>by
 rcases I.ok.stk with e|⟨e,hf⟩
 ·rw [e] at hb;exact List.mem_cons_of_mem _ hb
 ·rw [e] at hb
  unfold Kr at hb
  rw [List.filterMap_cons,hf] at hb
  exact hb
theorem Ar.stkFree (I:Ar X pins σ H s):∀b∈Kr X.stack,H b=none:=fun b hb=>by
 rcases List.mem_cons.mp (I.stkSub b hb) with e|hb
 ·rw [e];exact I.free
 ·obtain ⟨_,o,ho,_⟩:=I.ok.funs.mem hb
  exact I.base.free b o ho (I.ok.frf b hb) fun z=>I.ok.exfs b z hb
theorem Ar.step {g':Array GenState}{t':Nat}{d':Drawn}{ch:List Addr}(I:Ar X pins σ H s)
  (hch:∀b∈ch,(b∈X.ex∨X.s₀.heap.objs.size≤b)∧b≠X.env.locals∧(∀x c,X.env.cells.lookup x=some c→c≠b)∧∀p∈X.pn++pins,p.1≠b)
  (keep:∀b o,b≠X.env.locals→b∉X.fs→b∉ch→s.heap.get? b=some o→H b=none→h'.get? b=some o)
  (slot:∀b o,b≠X.env.locals→b∈X.fs→b∉ch→s.heap.get? b=some o→H b=none→∃sl,h'.get? b=some { o with slots:=sl }) (free:∀b o,b∉ch→s.heap.get? b=some o→H b=none→H' b=none)
  (there:∀b o,b∉ch→s.heap.get? b=some o→∃o',h'.get? b=some o')
  (tups:∀b xs,H b=some (.tup xs)→H' b=some (.tup xs)) (frzs:∀b o u,H b=some (.frz o u)→H' b=some (.frz o u)) (tbls:∀b ps,H b=some (.tbl ps)→∃more,H' b=some (.tbl (ps++more)))
  (ns:∀m,s.heap.Ns X.env.locals m→h'.Ns X.env.locals m) (hok:Hl X.prog X.w H' h') (hg:AllBare g') :
  Ar X pins σ H' { s with heap:=h',gens:=g',drawn:=d',toks:=t' }:=by
 have neL:∀b o,X.s₀.heap.get? b=some o→b≠X.env.locals:=fun b o e=>Nat.ne_of_lt (Nat.lt_of_lt_of_le (Heap.lt_size e) I.ok.above)
 have neC:∀b o,X.s₀.heap.get? b=some o→b∉X.ex→b∉ch:=fun b o e hx hb=>by
  rcases (hch b hb).1 with z|z
  ·exact hx z
  ·exact absurd (Nat.lt_of_lt_of_le (Heap.lt_size e) z) (Nat.lt_irrefl _)
 have cellK:∀x c,X.env.cells.lookup x=some c→∀v,s.heap.IsCell c v→h'.IsCell c v:=fun x c e v ⟨o,ho,hd⟩=>by
  have nch:c∉ch:=fun z=>(hch c z).2.2.1 x c e rfl
  by_cases hc:c∈X.fs
  ·obtain ⟨sl,q⟩:=slot c o (I.cne x c e) hc nch ho (I.freeC x c e)
   exact ⟨_,q,hd⟩
  ·exact ⟨o,keep c o (I.cne x c e) hc nch ho (I.freeC x c e),hd⟩
 refine ⟨I.ok,I.os,hg,⟨fun b o e n hb hx=>?_,fun b o e n hb hx=>?_,fun b o e n hx=>?_,fun b o e hx=>?_,fun b xs e=>tups b xs (I.base.tups b xs e),fun b o xs e=>frzs b o xs (I.base.frzs b o xs e),fun b ps e=>?_⟩,?_,fun x c e=>?_,?_,fun x c e=>?_,fun p hp=>?_,hok,I.len⟩
 ·exact keep b o (neL b o e) hb (neC b o e hx) (I.base.keep b o e n hb hx) (I.base.free b o e n hx)
 ·obtain ⟨sl,e1⟩:=I.base.slot b o e n hb hx
  obtain ⟨sl',e2⟩:=slot b _ (neL b o e) hb (neC b o e hx) e1 (I.base.free b o e n hx)
  exact ⟨sl',e2⟩
 ·obtain ⟨o',e1⟩:=I.base.there b o e hx
  exact free b o' (neC b o e hx) e1 (I.base.free b o e n hx)
 ·obtain ⟨o',e1⟩:=I.base.there b o e hx
  exact there b o' (neC b o e hx) e1
 ·obtain ⟨m1,e1⟩:=I.base.tbls b ps e
  obtain ⟨m2,e2⟩:=tbls b _ e1
  exact ⟨m1++m2,by rw [e2,Array.append_assoc]⟩
 ·obtain ⟨m,hn,hl⟩:=I.loc
  refine ⟨m,ns m hn,fun i x v e1 e2 e3=>?_⟩
  obtain ⟨u,r,l⟩:=hl i x v e1 e2 e3
  refine ⟨u,r,?_⟩
  rcases l with l|⟨k,c,e,z⟩
  ·exact .inl l
  ·exact .inr ⟨k,c,e,cellK x c e _ z⟩
 ·obtain ⟨v,z⟩:=I.cell x c e
  exact ⟨v,cellK x c e v z⟩
 ·obtain ⟨m,⟨o,_,_,ho,_⟩,_⟩:=I.loc
  exact free _ o (fun z=>(hch _ z).2.1 rfl) ho I.free
 ·obtain ⟨v,o,ho,hd⟩:=I.cell x c e
  exact free c o (fun z=>(hch c z).2.2.1 x c e rfl) ho (I.freeC x c e)
 ·obtain ⟨e,n,ne,nf,d⟩:=I.pin p hp
  have nch:p.1∉ch:=fun z=>(hch p.1 z).2.2.2 p hp rfl
  exact ⟨keep p.1 p.2 ne nf nch e n,free p.1 p.2 nch e n,ne,nf,d⟩
theorem Ar.un {t':Nat}(I:Ar X pins σ H s)(u:Un X.fs [] H H' s.heap h')(hok:Hl X.prog X.w H' h'):Ar X pins σ H' { s with heap:=h',toks:=t' }:=by
 obtain ⟨m,⟨o,es,ep,ho,r⟩,_⟩:=id I.loc
 obtain ⟨sl,hL⟩:=u.any ho I.free (by simp)
 exact I.step (g':=s.gens) (d':=s.drawn) (ch:=[]) (fun _ z=>nomatch z) (fun b o _ hb _ e n=>u.keep b o e n hb (by simp)) (fun b o _ hb _ e n=>u.slot b o e n hb (by simp)) (fun b o _ e n=>u.free b o e n (by simp)) (fun b o _ e=>u.there b o e (by simp)) u.tups u.frzs u.tbls (fun m' hm=>by
  obtain ⟨o',es',ep',ho',r'⟩:=hm
  rw [ho] at ho';cases ho'
  exact ⟨_,es',ep',hL,r'⟩) hok I.bare
theorem Ar.call {g':Array GenState}{t':Nat}{d':Drawn}{ch:List Addr}(I:Ar X pins σ H s)(u:Un (Kr X.stack) ch H H' s.heap h')(hok:Hl X.prog X.w H' h')(hg:AllBare g')
  (hch:∀b∈ch,(b∈X.ex∨X.s₀.heap.objs.size≤b)∧b≠X.env.locals∧(∀x c,X.env.cells.lookup x=some c→c≠b)∧∀p∈X.pn++pins,p.1≠b) :
  Ar X pins σ H' { s with heap:=h',gens:=g',drawn:=d',toks:=t' }:=by
 obtain ⟨m,⟨o,es,ep,ho,r⟩,_⟩:=id I.loc
 obtain ⟨sl,hL⟩:=u.any ho I.free fun z=>(hch _ z).2.1 rfl
 exact I.step (ch:=ch) hch (fun b o hL hb hc e n=>u.keep b o e n (fun z=>(List.mem_cons.mp (I.stkSub b z)).elim hL hb) hc) (fun b o _ _ hc e n=>u.any e n hc) (fun b o hc e n=>u.free b o e n hc) (fun b o hc e=>u.there b o e hc) u.tups u.frzs u.tbls (fun m' hm=>by
  obtain ⟨o',es',ep',ho',r'⟩:=hm
  rw [ho] at ho';cases ho'
  exact ⟨_,es',ep',hL,r'⟩) hok hg
theorem Ar.turned {t':Nat}{it:Addr}(I:Ar X pins σ H s)(k:∀b o,b≠it→s.heap.get? b=some o→h'.get? b=some o)(hn:H it=none)(hL:it≠X.env.locals)
  (h1:it∈X.ex∨X.s₀.heap.objs.size≤it) (h2:∀x c,X.env.cells.lookup x=some c→c≠it) (h3:∀p∈X.pn++pins,p.1≠it):Ar X pins σ H { s with heap:=h',toks:=t' }:=by
 have nit:∀b u,H b=some u→b≠it:=fun b u e z=>by rw [z,hn] at e;cases e
 refine I.step (g':=s.gens) (d':=s.drawn) (ch:=[it]) (fun b hb=>?_) (fun b o _ _ hc e _=>k b o (fun z=>hc (by simp [z])) e) (fun b o _ _ hc e _=>⟨o.slots,k b o (fun z=>hc (by simp [z])) e⟩) (fun _ _ _ _ n=>n)
  (fun b o hc e=>⟨o,k b o (fun z=>hc (by simp [z])) e⟩) (fun _ _ e=>e) (fun _ _ _ e=>e) (fun b ps e=>⟨#[],by rw [e];simp⟩) (fun m hm=>?_) (fun b u e=>?_) I.bare
 ·have e:b=it:=by simpa using hb
  subst e
  exact ⟨h1,hL,h2,h3⟩
 ·obtain ⟨o,es,ep,ho,r⟩:=hm
  exact ⟨o,es,ep,k _ o (Ne.symm hL) ho,r⟩
 ·refine (I.hok b u e).stay (fun c v hc q=>k c v ?_ q) (fun _ q=>q) fun _ _ q=>q
  rcases hc with z|z
  ·rw [z];exact nit b u e
  ·exact nit c _ z
theorem Ar.tok (I:Ar X pins σ H s)(t:Nat):Ar X pins σ H { s with toks:=t }:=I.un (h':=s.heap) (t':=t) Un.refl I.hok
theorem Ar.kept {t':Nat}(I:Ar X pins σ H s)(k:∀b u,s.heap.get? b=some u→h'.get? b=some u):Ar X pins σ H { s with heap:=h',toks:=t' }:=I.un (Un.kept k) (I.hok.kept k)
theorem Ar.laid {a:Addr}{o:HO}{t':Nat}(I:Ar X pins σ H s)(k:∀b u,s.heap.get? b=some u→h'.get? b=some u)(hp:s.heap.objs.size≤a)(new:Bb X.prog X.w (upd H a o) h' a o) :
  Ar X pins σ (upd H a o) { s with heap:=h',toks:=t' }:=I.un (Un.laid k hp (I.hok.fresh hp)) (I.hok.laid k hp new)
theorem Ar.write {x e:Addr}{o:HO}{t':Nat}(I:Ar X pins σ H s)(mu:Mut (H x))(he:e=x∨H e=some (.own x))(k:∀b u,b≠e→s.heap.get? b=some u→h'.get? b=some u)(heo:∃u,h'.get? e=some u)
  (new:Bb X.prog X.w (upd H x o) h' x o):Ar X pins σ (upd H x o) { s with heap:=h',toks:=t' }:=I.un (Un.write mu he k heo) (I.hok.write mu he k heo new)
theorem Ar.weak {σ':List (Option V)}(I:Ar X pins σ H s)(hl:σ'.length=σ.length)(w:∀(i:Nat) v,σ'[i]? =some (some v)→σ[i]? =some (some v)):Ar X pins σ' H s:=
 ⟨I.ok,I.os,I.bare,I.base,let ⟨m,hn,hl'⟩:=I.loc;⟨m,hn,fun i x v e1 e2 e3=>hl' i x v e1 (w i v e2) e3⟩,I.cell,I.free,I.freeC,I.pin,I.hok,hl.trans I.len⟩
theorem Ar.pins_of {pins':List (Addr×Obj)}(I:Ar X pins σ H s)(h:∀p∈pins',s.heap.get? p.1=some p.2∧H p.1=none∧p.1≠X.env.locals∧p.1∉X.fs∧∀v,p.2.data≠.cell v):Ar X pins' σ H s:=
 ⟨I.ok,I.os,I.bare,I.base,I.loc,I.cell,I.free,I.freeC,fun p hp=>(List.mem_append.mp hp).elim (fun z=>I.pin p (List.mem_append_left _ z)) (h p),I.hok,I.len⟩
theorem Tv {N:List Str}(hN:N.Nodup){i j:Nat}{x:Str}(a:N[i]? =some x)(b:N[j]? =some x):i=j:=by
 obtain ⟨h1,e1⟩:=List.getElem?_eq_some_iff.mp a
 obtain ⟨h2,e2⟩:=List.getElem?_eq_some_iff.mp b
 exact (List.getElem_inj hN).mp (e1.trans e2.symm)
theorem Kj {M:Model}{A:Around}{E:Value→Shared→Prop}{i:Nat}{x:Str}{v:V}{u:Value}{Q:Unit→Shared→Prop}(I:Ar X pins σ H s)(hN:X.N.Nodup)(hi:X.N[i]? =some x)(hx:Loc X.env.scope x)(r:RelV v u)
  (h:∀s',Ar X pins (σ.set i (some v)) H s'→(∃a,Heap.SameBut a s.heap s'.heap∧(a=X.env.locals∨X.env.cells.lookup x=some a))→Q () s') (hf:X.fn x=true∨X.env.scope.names.lookup x=some .local:=by first|exact .inl rfl|exact .inr rfl|assumption):wpAny M A (storeName X.env x u) Q E s:=by
 obtain ⟨m,hn,hl⟩:=id I.loc
 have hcls:(X.env.scope.kind==.class||(X.env.scope.kind==.module&&X.env.locals != X.env.globals))=false:=by rw [I.ok.kind];rfl
 have hiσ:i<σ.length:=by rw [I.len];exact (List.getElem?_eq_some_iff.mp hi).1
 have cne:=I.cne
 have tracked:∀{a:Addr} {h':Heap},(∃o,s.heap.get? a=some o∧H a=none)→Heap.SameBut a s.heap h'→Hl X.prog X.w H h':=fun {a h'} ha hs b ob e=>by
  obtain ⟨_,_,hfree⟩:=ha
  refine (I.hok b ob e).stay (fun c w' hc q=>(hs.2 c ?_).trans q) (fun _ q=>q) fun _ _ q=>q
  rintro rfl
  rcases hc with rfl|hc
  ·rw [hfree] at e;cases e
  ·rw [hfree] at hc;cases hc
 rcases hx with hk|hk
 ·refine wpAny_storeName_local hk hn (fun h' hn' hs=>?_) hcls
  obtain ⟨oL,_,_,hoL,_⟩:=id hn
  refine h _ ⟨I.ok,I.os,I.bare,⟨fun b o e n hb hx=>?_,fun b o e n hb hx=>?_,I.base.free,fun b o e hx=>?_,I.base.tups,I.base.frzs,I.base.tbls⟩,⟨_,hn',fun j y v' e1 e2 e3=>?_⟩,fun y c e=>?_,I.free,I.freeC,fun p hp=>?_,tracked ⟨oL,hoL,I.free⟩ hs,by simpa using I.len⟩ ⟨_,hs,.inl rfl⟩
  ·exact (hs.2 b (Nat.ne_of_lt (Nat.lt_of_lt_of_le (Heap.lt_size e) I.ok.above))).trans (I.base.keep b o e n hb hx)
  ·obtain ⟨sl,e1⟩:=I.base.slot b o e n hb hx
   exact ⟨sl,(hs.2 b (Nat.ne_of_lt (Nat.lt_of_lt_of_le (Heap.lt_size e) I.ok.above))).trans e1⟩
  ·obtain ⟨o',e1⟩:=I.base.there b o e hx
   exact ⟨o',(hs.2 b (Nat.ne_of_lt (Nat.lt_of_lt_of_le (Heap.lt_size e) I.ok.above))).trans e1⟩
  ·by_cases hj:j=i
   ·subst hj
    rw [hi] at e1;cases e1
    rw [List.getElem?_set_self hiσ] at e2
    cases e2
    exact ⟨u,r,.inl ⟨hk,by simp⟩⟩
   ·rw [List.getElem?_set_ne (Ne.symm hj)] at e2
    obtain ⟨u',r',q⟩:=hl j y v' e1 e2 e3
    refine ⟨u',r',?_⟩
    rcases q with ⟨k,e⟩|⟨k,c,e,z⟩
    ·refine .inl ⟨k,?_⟩
     have:y≠x:=fun e=>hj (Tv hN e1 (e▸hi))
     simp [this,e]
    ·exact .inr ⟨k,c,e,z.sameBut hs (cne y c e)⟩
  ·obtain ⟨w',z⟩:=I.cell y c e
   exact ⟨w',z.sameBut hs (cne y c e)⟩
  ·obtain ⟨e,n,ne,nf,d⟩:=I.pin p hp
   exact ⟨(hs.2 p.1 ne).trans e,n,ne,nf,d⟩
 ·have hfn:X.fn x=true:=by
   rcases hf with z|z
   ·exact z
   ·rw [z] at hk;cases hk
  obtain ⟨c,hc⟩:=I.ok.has x (.inl hk)
  obtain ⟨w',z⟩:=I.cell x c hc
  refine wpAny_storeName_cell I.ok.kind hk hc z (fun h' hc' hs=>?_)
  obtain ⟨oc,hoc,hocd⟩:=id z
  refine h { s with heap:=h' } ⟨I.ok,I.os,I.bare,⟨fun b o e n hb hx=>?_,fun b o e n hb hx=>?_,I.base.free,fun b o e hx=>?_,I.base.tups,I.base.frzs,I.base.tbls⟩,⟨m,hn.sameBut hs (Ne.symm (cne x c hc)),fun j y v' e1 e2 e3=>?_⟩,fun y c' e=>?_,I.free,I.freeC,fun p hp=>?_,tracked ⟨oc,hoc,I.freeC x c hc⟩ hs,by simpa using I.len⟩ ⟨c,hs,.inr hc⟩
  ·exact (hs.2 b (Nat.ne_of_lt (Nat.lt_of_lt_of_le (Heap.lt_size e) (I.ok.cab x c hfn hc)))).trans (I.base.keep b o e n hb hx)
  ·obtain ⟨sl,e1⟩:=I.base.slot b o e n hb hx
   exact ⟨sl,(hs.2 b (Nat.ne_of_lt (Nat.lt_of_lt_of_le (Heap.lt_size e) (I.ok.cab x c hfn hc)))).trans e1⟩
  ·obtain ⟨o',e1⟩:=I.base.there b o e hx
   exact ⟨o',(hs.2 b (Nat.ne_of_lt (Nat.lt_of_lt_of_le (Heap.lt_size e) (I.ok.cab x c hfn hc)))).trans e1⟩
  ·by_cases hj:j=i
   ·subst hj
    rw [hi] at e1;cases e1
    rw [List.getElem?_set_self hiσ] at e2
    cases e2
    exact ⟨u,r,.inr ⟨.inl hk,c,hc,hc'⟩⟩
   ·rw [List.getElem?_set_ne (Ne.symm hj)] at e2
    obtain ⟨u',r',q⟩:=hl j y v' e1 e2 e3
    refine ⟨u',r',?_⟩
    rcases q with q|⟨k,c',e,z'⟩
    ·exact .inl q
    ·refine .inr ⟨k,c',e,z'.sameBut hs ?_⟩
     rintro rfl
     exact hj (Tv hN e1 (I.ok.inj _ _ _ e hc▸hi))
  ·by_cases hcc:c'=c
   ·subst hcc;exact ⟨_,hc'⟩
   ·obtain ⟨w2,z2⟩:=I.cell y c' e
    exact ⟨w2,z2.sameBut hs hcc⟩
  ·obtain ⟨e,n,ne,nf,d⟩:=I.pin p hp
   refine ⟨(hs.2 p.1 ?_).trans e,n,ne,nf,d⟩
   intro q
   rw [q,hoc] at e
   have q':oc=p.2:=Option.some.inj e
   exact d w' (by rw [←q'];exact hocd)
theorem Ty {M:Model}{A:Around}{E:Value→Shared→Prop}{i:Nat}{x:Str}{v:V}{u:Value}{Q:Unit→Shared→Prop}(I:Ar X pins σ H s)(hN:X.N.Nodup)(hi:X.N[i]? =some x)(hx:Loc X.env.scope x)(r:RelV v u)
  (h:∀s',Ar X pins (σ.set i (some v)) H s'→Q () s') (hf:X.fn x=true∨X.env.scope.names.lookup x=some .local:=by first|exact .inl rfl|exact .inr rfl|assumption):wpAny M A (storeName X.env x u) Q E s:=
 Kj I hN hi hx r (fun s' I' _=>h s' I') hf
theorem Ar.call' {s':Shared}{ch:List Addr}(I:Ar X pins σ H s)(ho:s'.os=s.os)(u:Un (Kr X.stack) ch H H' s.heap s'.heap)(hok:Hl X.prog X.w H' s'.heap)(hg:AllBare s'.gens)
  (hch:∀b∈ch,(b∈X.ex∨X.s₀.heap.objs.size≤b)∧b≠X.env.locals∧(∀x c,X.env.cells.lookup x=some c→c≠b)∧∀p∈X.pn++pins,p.1≠b):Ar X pins σ H' s':=by
 obtain ⟨h',g',d',t',o'⟩:=s'
 have e:o'=s.os:=ho
 subst e
 exact I.call (g':=g') (t':=t') (d':=d') u hok hg hch
end
abbrev XK:=Value→Option Addr→Hp→Prop
abbrev St:=List (Option V)
abbrev VK:=V→Hp→Prop
abbrev TE:=St→Hp→VK→Prop
abbrev TT:=St→Hp→(Bool→Hp→Prop)→Prop
abbrev TA:=St→Hp→(List V→Hp→Prop)→Prop
structure Rq where
 nx:St→Hp→Prop
 rt:VK
 bk:St→Hp→Prop:=fun _ _=>False
 ct:St→Hp→Prop:=fun _ _=>False
abbrev TS:=Rq→St→Hp→Prop
def EP (X:Cx)(pins:List (Addr×Obj))(σ:St)(Q:VK)(u:Value)(s':Shared):Prop:=∃v H',Ar X pins σ H' s'∧RelV v u∧Q v H'
def TP (X:Cx)(pins:List (Addr×Obj))(σ:St)(Q:Bool→Hp→Prop)(b:Bool)(s':Shared):Prop:=∃H',Ar X pins σ H' s'∧Q b H'
def AP (X:Cx)(pins:List (Addr×Obj))(σ:St)(Q:List V→Hp→Prop)(us:List Value)(s':Shared):Prop:=∃vs H',Ar X pins σ H' s'∧A4 vs us∧Q vs H'
def SP (X:Cx)(pins:List (Addr×Obj))(D:Rq)(f:Flow)(s':Shared):Prop:=
 match f with
 |.next=>∃σ' H',Ar X pins σ' H' s'∧D.nx σ' H'
 |.brk=>∃σ' H',Ar X pins σ' H' s'∧D.bk σ' H'
 |.cont=>∃σ' H',Ar X pins σ' H' s'∧D.ct σ' H'
 |.ret u=>∃v σ' H',Ar X pins σ' H' s'∧RelV v u∧D.rt v H'
def PE (X:Cx)(e:Expr)(t:TE):Prop:=
 ∀(pins:List (Addr×Obj)) (s:Shared) (σ:St) (H:Hp) (Q:VK),Ar X pins σ H s→t σ H Q→wpAny (model X.prog X.w) X.A (eval e X.env) (EP X pins σ Q) X.xe s
def PT (X:Cx)(e:Expr)(t:TT):Prop:=
 ∀(pins:List (Addr×Obj)) (s:Shared) (σ:St) (H:Hp) (Q:Bool→Hp→Prop),Ar X pins σ H s→t σ H Q→wpAny (model X.prog X.w) X.A (isTrue e X.env (eval e X.env)) (TP X pins σ Q) X.xe s
def PW (X:Cx)(e:Expr)(t:TT):Prop:=
 ∀(whole:Sem Value) (pins:List (Addr×Obj)) (s:Shared) (σ:St) (H:Hp) (Q:Bool→Hp→Prop),Ar X pins σ H s→t σ H Q→wpAny (model X.prog X.w) X.A (isTrue e X.env whole) (TP X pins σ Q) X.xe s
theorem PW.pt {X:Cx}{e:Expr}{t:TT}(h:PW X e t):PT X e t:=h _
def PA (X:Cx)(es:List Expr)(t:TA):Prop:=
 ∀(pos:Pos) (pins:List (Addr×Obj)) (s:Shared) (σ:St) (H:Hp) (Q:List V→Hp→Prop),Ar X pins σ H s→t σ H Q→wpAny (model X.prog X.w) X.A (spliced (backTo pos (starEach es X.env))) (AP X pins σ Q) X.xe s
def PS (X:Cx)(st:Stmt)(t:TS):Prop:=
 ∀(pins:List (Addr×Obj)) (s:Shared) (σ:St) (H:Hp) (D:Rq),Ar X pins σ H s→t D σ H→wpAny (model X.prog X.w) X.A (exec st X.env) (SP X pins D) X.xe s
def Mg (X:Cx)(st:List Stmt)(t:TS):Prop:=
 ∀(pins:List (Addr×Obj)) (s:Shared) (σ:St) (H:Hp) (D:Rq),Ar X pins σ H s→t D σ H→wpAny (model X.prog X.w) X.A (execs st X.env) (SP X pins D) X.xe s
theorem thn {α:Type}{t:Sem α}{Q Q':α→Shared→Prop}{M:Model}{A:Around}{E:Value→Shared→Prop}{s:Shared}(h:wpAny M A t Q E s)(hQ:∀a s,Q a s→Q' a s):wpAny M A t Q' E s:=wpAny_mono h hQ fun _ _ x=>x
end L2
namespace L2
open PySem PySem.Spec PyProof.Rows
section
variable {X:Cx}
def Agz (i:Nat):TE:=fun σ H Q=>∃v,σ[i]? =some (some v)∧Q v H
def tC (v:V):TE:=fun _ H Q=>Q v H
theorem Agq {i:Nat}{x:Str}{pos:Pos}(hN:X.N[i]? =some x)(hv:Vis X.env.scope x)(hd:(x==("__debug__":Str))=false:=by decide)(hcd:(x==("__classdict__":Str))=false:=by decide):PE X (.Name x pos) (Agz i):=by
 intro pins s σ H Q I h
 obtain ⟨v,e,h⟩:=h
 obtain ⟨m,hn,hl⟩:=I.loc
 obtain ⟨u,r,l⟩:=hl i x v hN e hv
 have fin:EP X pins σ Q u s:=⟨v,H,I,r,h⟩
 rcases l with ⟨hk,hm⟩|⟨hk,c,hc,hcell⟩
 ·exact wpAny_Name (wpAny_loadName_local I.ok.kind hk hn hm fin) hd
 ·rcases hk with hk|hk
  ·exact wpAny_Name (wpAny_loadName_cell I.ok.kind hk hc hcell fin) hd
  ·exact wpAny_Name (wpAny_loadName_free I.ok.kind hk hc hcell fin hcd) hd
theorem Ab {i j pos}:PE X (.Constant (.int i) j pos) (tC (.int i)):=fun _ _ _ H _ I h=>wpAny_Constant_int ⟨.int i,H,I.tok _,⟨_,rfl⟩,h⟩
theorem Xh {b j pos}:PE X (.Constant (.bool b) j pos) (tC (.bl b)):=fun _ _ _ H _ I h=>Constant_bool ⟨.bl b,H,I,rfl,h⟩
theorem Abn {x j pos}:PE X (.Constant (.str x) j pos) (tC (.str x)):=fun _ _ _ H _ I h=>Calls.Constant_str ⟨.str x,H,I.tok _,⟨_,rfl⟩,h⟩
def Gl (X:Cx)(x:Str):Prop:=X.env.kindOf x=some .globalImplicit
theorem Jr {E:Value→Shared→Prop}{pins:List (Addr×Obj)}{s:Shared}{σ:St}{H:Hp}{x:Str}{u:Value}{pos:Pos}{Q:Value→Shared→Prop}(I:Ar X pins σ H s)(hg:Gl X x)(hm:X.mg x=some u)(h:Q u s)
  (hd:(x==("__debug__":Str))=false:=by decide):wpAny (model X.prog X.w) X.A (eval (.Name x pos) X.env) Q E s:=
 Calls.Name_function_global I.ok.kind hg (Calls.loadGlobal_global (by rw [I.ok.glob];exact I.mod.glob.keeps I.bk) hm h) hd
theorem E6 {E:Value→Shared→Prop}{pins:List (Addr×Obj)}{s:Shared}{σ:St}{H:Hp}{x:Str}{u:Value}{pos:Pos}{Q:Value→Shared→Prop}(I:Ar X pins σ H s)(hg:Gl X x)(hm:X.mg x=none)(hv:bootBuiltins x=some u)(h:Q u s)
  (hn:x≠"__name__":=by decide) (hd:(x==("__debug__":Str))=false:=by decide):wpAny (model X.prog X.w) X.A (eval (.Name x pos) X.env) Q E s:=by
 obtain ⟨mb,h1,h2⟩:=I.mod.blt
 exact Calls.Name_function_global I.ok.kind hg (Calls.loadGlobal_builtin (by rw [I.ok.glob];exact I.mod.glob.keeps I.bk) hm (by rw [I.ok.blt];exact h1.keeps I.bk) ((h2 x hn).trans hv) h) hd
theorem Ada {x:Str}{v:V}{u:Value}{pos:Pos}(hg:Gl X x)(hm:X.mg x=some u)(r:RelV v u)(hd:(x==("__debug__":Str))=false:=by decide):PE X (.Name x pos) (tC v):=
 fun _ _ _ H _ I h=>Jr I hg hm ⟨v,H,I,r,h⟩ hd
theorem Adn {x:Str}{v:V}{u:Value}{pos:Pos}(hg:Gl X x)(hm:X.mg x=none)(hv:bootBuiltins x=some u)(r:RelV v u)(hn:x≠"__name__":=by decide)(hd:(x==("__debug__":Str))=false:=by decide):PE X (.Name x pos) (tC v):=
 fun _ _ _ H _ I h=>E6 I hg hm hv ⟨v,H,I,r,h⟩ hn hd
variable {a b:Expr}{ta tb:TE}{pos:Pos}
def PC (X:Cx)(op:CmpOp)(a b:Expr)(t:TE):Prop:=
 ∀(pins:List (Addr×Obj)) (s:Shared) (σ:St) (H:Hp) (Q:VK),Ar X pins σ H s→t σ H Q →
  wpAny (model X.prog X.w) X.A (eval a X.env) (fun v s₁=>wpAny (model X.prog X.w) X.A (eval b X.env) (fun u s₂=>wpAny (model X.prog X.w) X.A (compareOp op v u) (EP X pins σ Q) X.xe s₂) X.xe s₁) X.xe s
def tB (t:TE):TT:=fun σ H Q=>t σ H fun x H1=>∃c,x=.bl c∧Q c H1
theorem Afw {op:CmpOp}{t:TE}(h:PC X op a b t)(h1:behindInMarks op b=false:=by first|exact nobehind _ (by decide) (by decide)|rfl):PT X (.Compare a [op] [b] pos) (tB t):=by
 intro pins s σ H Q I hw
 refine wpAny_isTrue_Compare1 (thn (h pins s σ H _ I hw) fun v s1 h1=>thn h1 fun u s2 h2=>thn h2 fun c s3 ⟨x,H1,I1,r1,q1⟩=>?_) h1
 obtain ⟨d,rfl,q⟩:=q1
 cases r1
 exact wpAny_truthy_bool ⟨H1,I1,q⟩
theorem Aga {e:Expr}{t:TE}(h:PE X e t)(he:∀whole,isTrue e X.env whole=(do let v ←whole;standAt e.pos;holding [v] (truthy v)):=by intro _;rfl):PT X e (tB t):=by
 intro pins s σ H Q I hw
 refine isTrue_plain (thn (h pins s σ H _ I hw) fun v s1 ⟨x,H1,I1,r1,q1⟩=>?_) (he _)
 obtain ⟨d,rfl,q⟩:=q1
 cases r1
 exact wpAny_truthy_bool ⟨H1,I1,q⟩
variable {tA tB':TT}{Em:List Expr}
def Ahh (t u:TT):TT:=fun σ H Q=>t σ H fun c H1=>if c=true then u σ H1 Q else Q false H1
def tOr (t u:TT):TT:=fun σ H Q=>t σ H fun c H1=>if c=true then Q true H1 else u σ H1 Q
def Alu (t:TT):TT:=fun σ H Q=>t σ H fun c H1=>Q (!c) H1
theorem Qs (ha:PT X a tA):PW X (.BoolOp .And [a] pos) tA:=by
 intro wh pins s σ H Q I h
 refine isTrue_and (thn (ha pins s σ H Q I h) fun c s1 e=>?_)
 cases c with
 |true=>exact isTrue_and_nil e
 |false=>exact e
theorem Nn (ha:PT X a tA):PW X (.BoolOp .Or [a] pos) tA:=by
 intro wh pins s σ H Q I h
 refine isTrue_or (thn (ha pins s σ H Q I h) fun c s1 e=>?_)
 cases c with
 |false=>exact isTrue_or_nil e
 |true=>exact e
theorem Ahm (ha:PT X a tA)(hb:PW X (.BoolOp .And (b::Em) pos) tB'):PW X (.BoolOp .And (a::b::Em) pos) (Ahh tA tB'):=by
 intro wh pins s σ H Q I h
 refine isTrue_and (thn (ha pins s σ H _ I h) fun c s1 ⟨H1,I1,q1⟩=>?_)
 cases c with
 |true=>exact hb wh pins s1 σ H1 Q I1 q1
 |false=>exact ⟨H1,I1,q1⟩
theorem Ajx (ha:PT X a tA)(hb:PW X (.BoolOp .Or (b::Em) pos) tB'):PW X (.BoolOp .Or (a::b::Em) pos) (tOr tA tB'):=by
 intro wh pins s σ H Q I h
 refine isTrue_or (thn (ha pins s σ H _ I h) fun c s1 ⟨H1,I1,q1⟩=>?_)
 cases c with
 |true=>exact ⟨H1,I1,q1⟩
 |false=>exact hb wh pins s1 σ H1 Q I1 q1
theorem D7 (ha:PT X a tA):PT X (.UnaryOp .Not a pos) (Alu tA):=by
 intro pins s σ H Q I h
 exact isTrue_not (ha pins s σ H (fun c H1=>Q (!c) H1) I h)
def Zu (ta tb:TE):TE:=fun σ H Q=>ta σ H fun x H1=>∃c,x=.bl c∧if c=true then tb σ H1 Q else Q (.bl false) H1
def Z2 (ta:TE):TE:=fun σ H Q=>ta σ H fun x H1=>∃c,x=.bl c∧Q (.bl (!c)) H1
theorem Il {op}{t:TE}(h:PE X a t):PE X (.BoolOp op [a] pos) t:=fun pins s σ H Q I hw=>BoolOp_one (h pins s σ H Q I hw)
theorem Ag6 (ha:PE X a ta)(hb:PE X (.BoolOp .And (b::Em) pos) tb):PE X (.BoolOp .And (a::b::Em) pos) (Zu ta tb):=by
 intro pins s σ H Q I h
 refine BoolOp_and (thn (ha pins s σ H _ I h) fun v s1 ⟨x,H1,I1,r1,q1⟩=>?_)
 obtain ⟨c,rfl,q1⟩:=q1
 cases r1
 refine wpAny_truthy_bool ?_
 cases c with
 |true=>exact hb pins s1 σ H1 Q I1 q1
 |false=>exact ⟨.bl false,H1,I1,rfl,q1⟩
theorem Ago (ha:PE X a ta):PE X (.UnaryOp .Not a pos) (Z2 ta):=by
 intro pins s σ H Q I h
 refine UnaryOp_ (thn (ha pins s σ H _ I h) fun v s1 ⟨x,H1,I1,r1,q1⟩=>?_)
 obtain ⟨c,rfl,q1⟩:=q1
 cases r1
 exact not_of (wpAny_truthy_bool ⟨.bl (!c),H1,I1,rfl,q1⟩)
def tIf (t:TT)(ta tb:TE):TE:=fun σ H Q=>t σ H fun c H1=>if c=true then ta σ H1 Q else tb σ H1 Q
theorem Zs {c:Expr}(hc:PT X c tA)(ha:PE X a ta)(hb:PE X b tb):PE X (.IfExp c a b pos) (tIf tA ta tb):=by
 intro pins s σ H Q I h
 refine wpAny_IfExp (thn (hc pins s σ H _ I h) fun d s1 ⟨H1,I1,q1⟩=>?_)
 cases d with
 |true=>exact ha pins s1 σ H1 Q I1 q1
 |false=>exact hb pins s1 σ H1 Q I1 q1
end
end L2
namespace L2
open PySem PySem.Spec PyProof.Rows
def Ay (K:PySem.W.Frag)(H:Hp)(a:Addr)(xs:List V):Prop:=
 Rd H a (.lst xs) ∨
  ∃(o:Obj) (its:Array Value) (n:Nat),K.lookup a=some o∧o.cls=.type "list"∧o.dict=none∧o.data=.seq its n∧its.size≤sizeLine∧A4 xs its.toList
def E4 (K:PySem.W.Frag)(H:Hp)(a:Addr)(xs:List V):Prop:=
 Rd H a (.tup xs) ∨
  ∃(o:Obj) (its:Array Value) (n:Nat),K.lookup a=some o∧o.cls=.type "tuple"∧o.data=.seq its n∧its.size≤sizeLine∧A4 xs its.toList
def Al7:Value→Option V
 |.none=>some .non
 |.bool b=>some (.bl b)
 |.int i _=>some (.int i)
 |.str x _=>some (.str x)
 |.bytes b _=>some (.byt b)
 |.float b _=>some (.flt b)
 |.ref a=>some (.ref a)
 |.type n=>some (.ty n)
 |_=>none
theorem RelV.abs {x:V}{u:Value}(r:RelV x u):Al7 u=some x:=by
 cases x with
 |non=>cases r;rfl
 |bl _=>cases r;rfl
 |int _=>obtain ⟨t,rfl⟩:=r;rfl
 |str _=>obtain ⟨t,rfl⟩:=r;rfl
 |byt _=>obtain ⟨t,rfl⟩:=r;rfl
 |flt _=>obtain ⟨t,rfl⟩:=r;rfl
 |ref _=>cases r;rfl
 |ty _=>cases r;rfl
theorem RelV.inj {x y:V}{u:Value}(r:RelV x u)(q:RelV y u):x=y:=Option.some.inj (r.abs.symm.trans q.abs)
theorem A4.inj:∀{xs ys:List V} {us:List Value},A4 xs us→A4 ys us→xs=ys
 |_,_,_,.nil,.nil=>rfl
 |_,_,_,.cons r t,.cons r' t'=>by rw [r.inj r',A4.inj t t']
section
variable {X:Cx}{pins:List (Addr×Obj)}{σ:St}{H:Hp}{s:Shared}{a:Addr}{xs ys:List V}
theorem Ay.of {K:PySem.W.Frag}(h:H a=some (.lst xs)):Ay K H a xs:=.inl (.inl h)
theorem E4.of {K:PySem.W.Frag}(h:H a=some (.tup xs)):E4 K H a xs:=.inl (.inl h)
theorem Ar.list (I:Ar X pins σ H s)(h:Ay X.K H a xs):∃its:List Value,A4 xs its∧PlainL s.heap a its.toArray∧xs.length≤sizeLine:=by
 rcases h with h|⟨o,its,n,hk,hc,hd,hs,hz,r⟩
 ·obtain ⟨z,its,n,r,e⟩:=h.ok I.hok
  exact ⟨its,r,⟨_,n,e,rfl,rfl,rfl⟩,z⟩
 ·refine ⟨its.toList,r,⟨o,n,I.kIn a o hk,hc,hd,by simpa using hs⟩,?_⟩
  have e:=r.length
  simp only [Array.length_toList] at e
  omega
theorem Ar.tuple (I:Ar X pins σ H s)(h:E4 X.K H a xs):∃its:List Value,A4 xs its∧IsTup s.heap a its.toArray∧xs.length≤sizeLine:=by
 rcases h with h|⟨o,its,n,hk,hc,hs,hz,r⟩
 ·obtain ⟨z,its,r,p⟩:=h.ok I.hok
  exact ⟨its,r,p,z⟩
 ·refine ⟨its.toList,r,⟨o,I.kIn a o hk,hc,n,by simpa using hs⟩,?_⟩
  have e:=r.length
  simp only [Array.length_toList] at e
  omega
theorem Ar.list_inj (I:Ar X pins σ H s)(h:Ay X.K H a xs)(h':Ay X.K H a ys):xs=ys:=by
 obtain ⟨its,r,⟨o,n,e,_,_,d⟩,_⟩:=I.list h
 obtain ⟨its',r',⟨o',n',e',_,_,d'⟩,_⟩:=I.list h'
 rw [e] at e';cases e'
 rw [d] at d'
 injection d' with d1 _
 have:its=its':=by simpa using congrArg Array.toList d1
 subst this
 exact r.inj r'
theorem Ar.tuple_inj (I:Ar X pins σ H s)(h:E4 X.K H a xs)(h':E4 X.K H a ys):xs=ys:=by
 obtain ⟨its,r,⟨o,e,_,n,d⟩,_⟩:=I.tuple h
 obtain ⟨its',r',⟨o',e',_,n',d'⟩,_⟩:=I.tuple h'
 rw [e] at e';cases e'
 rw [d] at d'
 injection d' with d1 _
 have:its=its':=by simpa using congrArg Array.toList d1
 subst this
 exact r.inj r'
end
abbrev Cx.wish (X:Cx)(E:Value→Shared→Prop):Cx:={ X with xe:=E }
abbrev Cx.nox (X:Cx):Cx:=X.wish fun _ _=>False
theorem Cx.Ok.wish {X:Cx}(ok:X.Ok)(E:Value→Shared→Prop):(X.wish E).Ok:=
 ⟨ok.mod,ok.kind,ok.glob,ok.blt,ok.above,ok.inj,ok.has,ok.cab,ok.hd,ok.frames,ok.stk,ok.exf,ok.bs,ok.bsz,ok.noex,ok.exfs,ok.funs,ok.frf⟩
theorem Cx.Ok.unwish {X:Cx}{E:Value→Shared→Prop}(ok:(X.wish E).Ok):X.Ok:=
 ⟨ok.mod,ok.kind,ok.glob,ok.blt,ok.above,ok.inj,ok.has,ok.cab,ok.hd,ok.frames,ok.stk,ok.exf,ok.bs,ok.bsz,ok.noex,ok.exfs,ok.funs,ok.frf⟩
section
variable {X:Cx}{pins:List (Addr×Obj)}{σ:St}{H:Hp}{s:Shared}{E:Value→Shared→Prop}
theorem Ar.wish (I:Ar X pins σ H s)(E:Value→Shared→Prop):Ar (X.wish E) pins σ H s:=⟨I.ok.wish E,I.os,I.bare,I.base,I.loc,I.cell,I.free,I.freeC,I.pin,I.hok,I.len⟩
theorem Ar.unwish (I:Ar (X.wish E) pins σ H s):Ar X pins σ H s:=⟨I.ok.unwish,I.os,I.bare,I.base,I.loc,I.cell,I.free,I.freeC,I.pin,I.hok,I.len⟩
theorem SP.unwish {D:Rq}{f:Flow}{s':Shared}(h:SP (X.wish E) pins D f s'):SP X pins D f s':=by
 cases f with
 |next=>obtain ⟨σ',H',I,q⟩:=h;exact ⟨σ',H',I.unwish,q⟩
 |brk=>obtain ⟨σ',H',I,q⟩:=h;exact ⟨σ',H',I.unwish,q⟩
 |cont=>obtain ⟨σ',H',I,q⟩:=h;exact ⟨σ',H',I.unwish,q⟩
 |ret u=>obtain ⟨v,σ',H',I,r,q⟩:=h;exact ⟨v,σ',H',I.unwish,r,q⟩
theorem Mg.nox {st:List Stmt}{t:TS}(h:Mg X.nox st t):Mg X st t:=fun pins s σ H D I hw=>
 wpAny_mono (h pins s σ H D (I.wish _) hw) (fun _ _ q=>q.unwish) fun _ _ z=>False.elim z
end
section
variable {X:Cx}{st:Stmt}{Em:List Stmt}{t u:TS}{e:Expr}{te:TE}{pos:Pos}
def Aki:TS:=fun D σ H=>D.nx σ H
def Amn (t u:TS):TS:=fun D σ H=>t { D with nx:=u D } σ H
theorem A8:Mg X [] Aki:=fun _ _ σ H _ I h=>wpAny_execs_nil ⟨σ,H,I,h⟩
theorem Ae (h1:PS X st t)(h2:Mg X Em u):Mg X (st::Em) (Amn t u):=by
 intro pins s σ H D I h
 refine wpAny_execs_cons (thn (h1 pins s σ H { D with nx:=u D } I h) fun f s1 q=>?_)
 cases f with
 |next=>
  obtain ⟨σ',H',I',q⟩:=q
  exact h2 pins s1 σ' H' D I' q
 |ret v=>exact q
 |brk=>exact q
 |cont=>exact q
theorem Ag (h1:PS X st t):Mg X [st] t:=by
 intro pins s σ H D I h
 refine wpAny_execs_cons (thn (h1 pins s σ H D I h) fun f s1 q=>?_)
 cases f with
 |next=>exact wpAny_execs_nil q
 |ret v=>exact q
 |brk=>exact q
 |cont=>exact q
theorem Ar.quiet {pins:List (Addr×Obj)}{σ:St}{H:Hp}{s:Shared}(I:Ar X pins σ H s):interactive X.env=false:=by simp [interactive,I.ok.kind]
def Ajc (te:TE):TS:=fun D σ H=>te σ H fun _ H1=>D.nx σ H1
theorem Bs (he:PE X e te)(hs:swapsWith e none pos.line X.env=pure false:=by rfl):PS X (.Expr e pos) (Ajc te):=by
 intro pins s σ H D I h
 exact wpAny_Expr_any (thn (he pins s σ H _ I h) fun v s1 ⟨x,H1,I1,r1,q1⟩=>⟨σ,H1,I1,q1⟩) I.quiet hs
def Alz (te:TE):TS:=fun D σ H=>te σ H D.rt
theorem Aq (he:PE X e te):PS X (.Return (some e) pos) (Alz te):=by
 intro pins s σ H D I h
 exact wpAny_Return_some (thn (he pins s σ H _ I h) fun v s1 ⟨x,H1,I1,r1,q1⟩=>⟨x,σ,H1,I1,r1,q1⟩)
def Aim (c:TT)(t u:TS):TS:=fun D σ H=>c σ H fun b H1=>if b=true then t D σ H1 else u D σ H1
theorem Ajy {c:Expr}{a b:List Stmt}{tc:TT}(hc:PT X c tc)(ha:Mg X a t)(hb:Mg X b u):PS X (.If c a b pos) (Aim tc t u):=by
 intro pins s σ H D I h
 refine wpAny_If (thn (hc pins s σ H _ I h) fun d s1 ⟨H1,I1,q1⟩=>?_)
 cases d with
 |true=>exact ha pins s1 σ H1 D I1 q1
 |false=>exact hb pins s1 σ H1 D I1 q1
def Ahj:TS:=fun _ _ _=>False
theorem G3:PS X st Ahj:=fun _ _ _ _ _ _ h=>h.elim
end
abbrev TG:=V→St→Hp→(St→Hp→Prop)→Prop
abbrev TGs:=List V→St→Hp→(St→Hp→Prop)→Prop
def PG (X:Cx)(target:Expr)(t:TG):Prop:=
 ∀(pins:List (Addr×Obj)) (s:Shared) (σ:St) (H:Hp) (v:V) (u:Value) (Q:St→Hp→Prop),Ar X pins σ H s→RelV v u→t v σ H Q →
  wpAny (model X.prog X.w) X.A (assign target X.env u) (fun _ s'=>∃σ' H',Ar X pins σ' H' s'∧Q σ' H') X.xe s
def PGs (X:Cx)(ts:List Expr)(t:TGs):Prop:=
 ∀(pins:List (Addr×Obj)) (s:Shared) (σ:St) (H:Hp) (vs:List V) (us:List Value) (Q:St→Hp→Prop),Ar X pins σ H s→A4 vs us→t vs σ H Q →
  wpAny (model X.prog X.w) X.A (assignInOrder ((assignEach ts X.env).map (·.2)) us) (fun _ s'=>∃σ' H',Ar X pins σ' H' s'∧Q σ' H') X.xe s
section
variable {X:Cx}{pos:Pos}
def O3 (i:Nat):TG:=fun v σ H Q=>Q (σ.set i (some v)) H
theorem A6 {i:Nat}{x:Str}(hN:X.N.Nodup)(hi:X.N[i]? =some x)(hx:Loc X.env.scope x)(hf:X.fn x=true∨X.env.scope.names.lookup x=some .local:=by first|exact .inl rfl|exact .inr rfl|assumption):PG X (.Name x pos) (O3 i):=by
 intro pins s σ H v u Q I r h
 exact wpAny_assign_Name (Ty I hN hi hx r (fun s' I'=>⟨_,H,I',h⟩) hf)
def Al3:TGs:=fun vs σ H Q=>vs=[]∧Q σ H
def Ai4 (t:TG)(u:TGs):TGs:=fun vs σ H Q=>∃v r,vs=v::r∧t v σ H fun σ' H'=>u r σ' H' Q
theorem Qi:PGs X [] Al3:=by
 intro pins s σ H vs us Q I r h
 obtain ⟨e,h⟩:=h
 subst e
 cases r
 exact assignInOrder_nil ⟨σ,H,I,h⟩
theorem C4 {e:Expr}{es:List Expr}{t:TG}{u:TGs}(h1:PG X e t)(h2:PGs X es u)
  (hs:(assignEach (e::es) X.env).map (·.2)=assign e X.env::(assignEach es X.env).map (·.2):=by rfl):PGs X (e::es) (Ai4 t u):=by
 intro pins s σ H vs us Q I r h
 obtain ⟨v,vr,e1,h⟩:=h
 subst e1
 cases r with
 |cons r rr=>
  rw [hs]
  refine assignInOrder_cons (thn (h1 pins s σ H _ _ _ I r h) fun _ s1 ⟨σ1,H1,I1,q1⟩=>?_)
  exact h2 pins s1 σ1 H1 _ _ Q I1 rr q1
def Akt (K:PySem.W.Frag)(n:Nat)(t:TGs):TG:=fun v σ H Q=>∃a xs,v=.ref a∧E4 K H a xs∧xs.length=n∧t xs σ H Q
theorem U2 {es:List Expr}{k:Nat}{t:TGs}{n:Nat}(hc:X.calm=true)(h:PGs X es t)
  (hn:(assignEach es X.env).length=n:=by rfl) (hst:(assignEach es X.env).findIdx? (·.1)=none:=by rfl):PG X (.Tuple es k pos) (Akt X.K n t):=by
 intro pins s σ H v u Q I r hw
 obtain ⟨a,xs,e1,hq,hl,hw⟩:=hw
 subst e1
 cases r
 obtain ⟨its,rv,ht,hz⟩:=I.tuple hq
 refine assign_Tuple_tuple (I.ok.hd hc) ht (by simp [hn,←hl,rv.length]) hst fun h' hx=>?_
 have I1:Ar X pins σ H { s with heap:=h' }:=I.kept (t':=s.toks) fun b o e=>hx b o (Nat.ne_of_lt (Heap.lt_size e)) e
 exact h pins _ σ H xs _ Q I1 (by simpa using rv) hw
def Xy (te:TE)(g:TG):TS:=fun D σ H=>te σ H fun x H1=>g x σ H1 D.nx
theorem Af6 {tg e:Expr}{te:TE}{g:TG}(he:PE X e te)(hg:PG X tg g)(hs:swapsWithSole [tg] e pos.line X.env=pure false:=by rfl)(hw:swappedStores [tg] e X.env=pure none:=by rfl)
  (h1:(assignEach [tg] X.env).map (·.2)=[assign tg X.env]:=by rfl):PS X (.Assign [tg] e pos) (Xy te g):=by
 intro pins s σ H D I h
 refine wpAny_Assign_stores (thn (he pins s σ H _ I h) fun v s1 ⟨x,H1,I1,r1,q1⟩=>?_) hs hw
 rw [h1]
 exact thn (hg pins s1 σ H1 x v _ I1 r1 q1) fun _ s2 q=>q
theorem Au {i:Nat}{x:Str}{e:Expr}{te:TE}{pos':Pos}(hN:X.N.Nodup)(hi:X.N[i]? =some x)(hx:Loc X.env.scope x)(he:PE X e te)(hs:swapsWith e (some (.Name x pos')) pos.line X.env=pure false:=by rfl)(hf:X.fn x=true∨X.env.scope.names.lookup x=some .local:=by first|exact .inl rfl|exact .inr rfl|assumption) :
  PS X (.Assign [.Name x pos'] e pos) (Xy te (O3 i)):=by
 intro pins s σ H D I h
 refine wpAny_Assign_Name (thn (he pins s σ H _ I h) fun v s1 ⟨y,H1,I1,r1,q1⟩=>?_) hs
 exact Ty I1 hN hi hx r1 (fun s2 I2=>⟨_,H1,I2,q1⟩) hf
end
section
variable {X:Cx}{pos:Pos}
end
structure It where
 go:Nat→Hp→Prop
 yld:Nat→Hp→V→Hp→Prop
 stop:Nat→Hp→Prop
def Jw (X:Cx)(pins:List (Addr×Obj))(H:Hp)(b:Addr):Prop:=
 H b=none∧b≠X.env.locals∧b∉X.fs∧(b∈X.ex∨X.s₀.heap.objs.size≤b)∧(∀x c,X.env.cells.lookup x=some c→c≠b)∧∀p∈X.pn++pins,p.1≠b
theorem Ar.fpOk {X:Cx}{pins:List (Addr×Obj)}{σ:St}{H H':Hp}{s:Shared}{b:Addr}(I:Ar X pins σ H s)(hb:s.heap.objs.size≤b)(hn:H' b=none):Jw X pins H' b:=by
 refine ⟨hn,Nat.ne_of_gt (Nat.lt_of_lt_of_le I.lt hb),I.nofs hb,.inr (Nat.le_trans I.sz hb),fun x c e z=>?_,fun p hp z=>?_⟩
 ·obtain ⟨v,q⟩:=I.cell x c e
  exact absurd (Nat.lt_of_lt_of_le q.lt (by rw [z];exact hb)) (Nat.lt_irrefl _)
 ·exact absurd (Nat.lt_of_lt_of_le (Heap.lt_size (I.pin p hp).1) (by rw [z];exact hb)) (Nat.lt_irrefl _)
structure Ur (P:Program)(w:World)(K:PySem.W.Frag)(tg:Expr)(J:It)(fp:List Addr)(it:Addr)(tn:Nat→Heap→Prop):Prop where
 mem:it∈fp
 obj:∀i h,tn i h→∀b∈fp,∃o,h.get? b=some o∧∀v,o.data≠.cell v
 keep:∀i h h',tn i h→(∀b∈fp,∀o,h.get? b=some o→h'.get? b=some o)→tn i h'
 item:∀(X:Cx),X.prog=P→X.w=w→X.K=K→X.calm=true→∀(i:Nat) (pins:List (Addr×Obj)) (s:Shared) (σ:St) (H:Hp) (E:Value→Shared→Prop),Ar X pins σ H s→(∀b∈fp,Jw X pins H b)→tn i s.heap→J.go i H →
  wpAny (model P w) X.A (pyNext (.ref it)) (fun r s1=>∃u,r=some u ∧
   wpAny (model P w) X.A (letOwnedTupleGo tg (.ref it) u) (fun _ s2=>∃x H',Ar X pins σ H' s2∧RelV x u∧J.yld i H x H'∧tn (i+1) s2.heap∧∀b∈fp,H' b=none) E s1) E s
 done:∀(X:Cx),X.prog=P→X.w=w→X.K=K→X.calm=true→∀(i:Nat) (pins:List (Addr×Obj)) (s:Shared) (σ:St) (H:Hp) (E:Value→Shared→Prop),Ar X pins σ H s→(∀b∈fp,Jw X pins H b)→tn i s.heap→J.stop i H →
  wpAny (model P w) X.A (pyNext (.ref it)) (fun r s1=>r=none∧Ar X pins σ H s1) E s
 self:∀(A:Around) (i:Nat) (s:Shared) (Q:Value→Shared→Prop) (E:Value→Shared→Prop),tn i s.heap→Q (.ref it) s→wpAny (model P w) A (pyIter (.ref it)) Q E s
abbrev TI:=St→Hp→(It→Hp→Prop)→Prop
def PIE (X:Cx)(pins:List (Addr×Obj))(σ:St)(tg:Expr)(R:It→Hp→Prop)(itv:Value)(s2:Shared):Prop:=
 ∃(it:Addr) (fp:List Addr) (tn:Nat→Heap→Prop) (J:It) (H':Hp),itv=.ref it∧Ar X pins σ H' s2∧Ur X.prog X.w X.K tg J fp it tn∧tn 0 s2.heap∧(∀b∈fp,Jw X pins H' b)∧R J H'
def PI (X:Cx)(tg iter:Expr)(wi:TI):Prop:=
 ∀(pins:List (Addr×Obj)) (s:Shared) (σ:St) (H:Hp) (R:It→Hp→Prop),Ar X pins σ H s→wi σ H R →
  wpAny (model X.prog X.w) X.A (eval iter X.env) (fun v s1=>wpAny (model X.prog X.w) X.A (pyIter v) (PIE X pins σ tg R) X.xe s1) X.xe s
theorem Ab2 {M:Model}{A:Around}{E:Value→Shared→Prop}{s:Shared}{tg:Expr}{it:Addr}{u:Value}{o:Obj}{n:String}{vs:Array Value}{Q:Unit→Shared→Prop}(ho:s.heap.get? it=some o)(hc:o.cls=.type n)(hd:o.data=.fields vs)
  (hn:["enumerate","zip","dict_itemiterator","dict_reverseitemiterator","odict_iterator","itertools.zip_longest","itertools.pairwise"].contains n=false) (hQ:Q () s):wpAny M A (letOwnedTupleGo tg (.ref it) u) Q E s:=by
 unfold letOwnedTupleGo
 cases tg<;>first
  |exact wpAny_pure hQ
  | (cases u<;>first
    |exact wpAny_pure hQ
    | (refine wpAny_bind (wpAny_load ho ?_)
       rw [hc,hd]
       show wpAny M A (if (["enumerate","zip","dict_itemiterator","dict_reverseitemiterator","odict_iterator","itertools.zip_longest","itertools.pairwise"].contains n&&vs[0]? ==some (rawInt _))=true then _ else _) Q E s
       rw [if_neg (by intro h;rw [hn,Bool.false_and] at h;cases h)]
       exact wpAny_pure hQ))
def Itl (K:PySem.W.Frag)(a:Addr):It:=
 ⟨fun i H=>∃xs x,Ay K H a xs∧xs[i]? =some x,fun i H x H'=>H'=H∧∀xs,Ay K H a xs→xs[i]? =some x,fun i H=>∃xs,Ay K H a xs∧xs.length≤i⟩
def Itt (K:PySem.W.Frag)(a:Addr):It:=
 ⟨fun i H=>∃xs x,E4 K H a xs∧xs[i]? =some x,fun i H x H'=>H'=H∧∀xs,E4 K H a xs→xs[i]? =some x,fun i H=>∃xs,E4 K H a xs∧xs.length≤i⟩
def Itr (lo:Int)(n:Nat):It:=⟨fun i _=>i<n,fun i H x H'=>H'=H∧x=.int (lo+i),fun i _=>n≤i⟩
theorem Xz {P:Program}{w:World}{K:PySem.W.Frag}{tg:Expr}(a it:Addr):Ur P w K tg (Itl K a) [it] it (fun i h=>h.IsListIter it a i) where
 mem:=by simp
 obj:=fun i h st b hb=>by
  have e:b=it:=by simpa using hb
  subst e
  obtain ⟨o,e,c,d⟩:=st
  exact ⟨o,e,fun v z=>by rw [d] at z;cases z⟩
 keep:=fun i h h' st k=>st.at fun o e=>k it (by simp) o e
 item:=by
  intro X hP hw hK hc i pins s σ H E I hf st hg
  subst hP hw hK
  obtain ⟨xs,x,hq,hx⟩:=hg
  obtain ⟨its,rv,p,hz⟩:=I.list hq
  obtain ⟨u,hu,ru⟩:=rv.get hx
  obtain ⟨f0,f1,f2,f3,f4,f5⟩:=hf it (by simp)
  refine wpAny_pyNext_list_item st p.isList (x:=u) (by simpa using hu) fun h' st' sb=>?_
  have I1:Ar X pins σ H { s with heap:=h' }:=I.turned (t':=s.toks) (fun b o hb e=>(sb.2 b hb).trans e) f0 f1 f3 f4 f5
  obtain ⟨o,e,c,d⟩:=id st'
  exact ⟨u,rfl,Ab2 (s:={ s with heap:=h' }) e c d (by decide) ⟨x,H,I1,ru,⟨rfl,fun ys hy=>by rw [I.list_inj hy hq];exact hx⟩,st',fun b hb=>(hf b hb).1⟩⟩
 done:=by
  intro X hP hw hK hc i pins s σ H E I hf st hg
  subst hP hw hK
  obtain ⟨xs,hq,hx⟩:=hg
  obtain ⟨its,rv,p,hz⟩:=I.list hq
  obtain ⟨f0,f1,f2,f3,f4,f5⟩:=hf it (by simp)
  have hl:=rv.length
  exact wpAny_pyNext_list_end (I.ok.hd hc) st p.isList (by simp;omega) fun h' eb=>⟨rfl,I.turned (t':=s.toks) (fun b o hb e=>eb b o hb e) f0 f1 f3 f4 f5⟩
 self:=fun _ _ _ _ _ st h=>wpAny_pyIter_listiter st h
theorem Ve {P:Program}{w:World}{K:PySem.W.Frag}{tg:Expr}(a it:Addr):Ur P w K tg (Itt K a) [it] it (fun i h=>h.IsTupleIter it a i) where
 mem:=by simp
 obj:=fun i h st b hb=>by
  have e:b=it:=by simpa using hb
  subst e
  obtain ⟨o,e,c,d⟩:=st
  exact ⟨o,e,fun v z=>by rw [d] at z;cases z⟩
 keep:=fun i h h' st k=>st.at fun o e=>k it (by simp) o e
 item:=by
  intro X hP hw hK hc i pins s σ H E I hf st hg
  subst hP hw hK
  obtain ⟨xs,x,hq,hx⟩:=hg
  obtain ⟨its,rv,p,hz⟩:=I.tuple hq
  obtain ⟨u,hu,ru⟩:=rv.get hx
  obtain ⟨f0,f1,f2,f3,f4,f5⟩:=hf it (by simp)
  refine wpAny_pyNext_tuple_item st (show s.heap.IsTuple a its.toArray from p) (x:=u) (by simpa using hu) fun h' st' sb=>?_
  have I1:Ar X pins σ H { s with heap:=h' }:=I.turned (t':=s.toks) (fun b o hb e=>(sb.2 b hb).trans e) f0 f1 f3 f4 f5
  obtain ⟨o,e,c,d⟩:=id st'
  exact ⟨u,rfl,Ab2 (s:={ s with heap:=h' }) e c d (by decide) ⟨x,H,I1,ru,⟨rfl,fun ys hy=>by rw [I.tuple_inj hy hq];exact hx⟩,st',fun b hb=>(hf b hb).1⟩⟩
 done:=by
  intro X hP hw hK hc i pins s σ H E I hf st hg
  subst hP hw hK
  obtain ⟨xs,hq,hx⟩:=hg
  obtain ⟨its,rv,p,hz⟩:=I.tuple hq
  obtain ⟨f0,f1,f2,f3,f4,f5⟩:=hf it (by simp)
  have hl:=rv.length
  exact wpAny_pyNext_tuple_end (I.ok.hd hc) st (show s.heap.IsTuple a its.toArray from p) (by simp;omega) fun h' eb=>⟨rfl,I.turned (t':=s.toks) (fun b o hb e=>eb b o hb e) f0 f1 f3 f4 f5⟩
 self:=fun _ _ _ _ _ st h=>wpAny_pyIter_tupleiter st h
theorem U9 {P:Program}{w:World}{K:PySem.W.Frag}{tg:Expr}(it:Addr)(lo:Int)(n:Nat):Ur P w K tg (Itr lo n) [it] it (fun i h=>IsRangeIter h it (lo+(i:Nat)*1) ((n:Int)-(i:Nat)) 1) where
 mem:=by simp
 obj:=fun i h st b hb=>by
  have e:b=it:=by simpa using hb
  subst e
  exact ⟨_,st,fun v z=>by
   have z':Data.fields _=Data.cell v:=z
   cases z'⟩
 keep:=fun i h h' st k=>k it (by simp) _ st
 item:=by
  intro X hP hw hK hc i pins s σ H E I hf st hg
  subst hP hw hK
  obtain ⟨f0,f1,f2,f3,f4,f5⟩:=hf it (by simp)
  have W:=Walks.range (prog:=X.prog) (w:=X.w) (I.ok.hd hc) it lo 1 n
  refine W.item i s _ _ hg st fun v h' tk hv st' kk=>?_
  obtain ⟨t,rfl⟩:=hv
  have I1:Ar X pins σ H { s with heap:=h',toks:=tk }:=I.turned (fun b o hb e=>kk b o (by simpa using hb) e) f0 f1 f3 f4 f5
  refine ⟨_,rfl,Ab2 (s:={ s with heap:=h',toks:=tk }) (n:="range_iterator") st' rfl rfl (by decide) ⟨.int (lo+i),H,I1,⟨t,?_⟩,⟨rfl,rfl⟩,st',fun b hb=>(hf b hb).1⟩⟩
  rw [Int.mul_one]
 done:=by
  intro X hP hw hK hc i pins s σ H E I hf st hg
  subst hP hw hK
  obtain ⟨f0,f1,f2,f3,f4,f5⟩:=hf it (by simp)
  exact wpAny_pyNext_range_end (I.ok.hd hc) st (by have:n≤i:=hg;omega) fun h' eb=>⟨rfl,I.turned (t':=s.toks) (fun b o hb e=>eb b o hb e) f0 f1 f3 f4 f5⟩
 self:=fun _ _ _ _ _ st h=>wpAny_pyIter_rangeiter st h
end L2
namespace L2
open PySem PySem.Spec PyProof.Rows
section
variable {X:Cx}{tg:Expr}
def Aj7 (K:PySem.W.Frag)(tl:TE):TI:=fun σ H R=>tl σ H fun x H1=>∃a,x=.ref a∧(∃xs,Ay K H1 a xs)∧R (Itl K a) H1
def Aml (K:PySem.W.Frag)(tl:TE):TI:=fun σ H R=>tl σ H fun x H1=>∃a,x=.ref a∧(∃xs,E4 K H1 a xs)∧R (Itt K a) H1
theorem Dq {l:Expr}{tl:TE}(hl:PE X l tl):PI X tg l (Aj7 X.K tl):=by
 intro pins s σ H R I h
 refine thn (hl pins s σ H _ I h) fun v s1 ⟨x,H1,I1,r1,q1⟩=>?_
 obtain ⟨a,e,⟨xs,hq⟩,q⟩:=q1
 subst e
 cases r1
 obtain ⟨its,rv,p,hz⟩:=I1.list hq
 refine wpAny_pyIter_list p.isList ?_
 refine ⟨s1.heap.objs.size,[s1.heap.objs.size],_,_,H1,rfl,I1.kept (t':=s1.toks) fun b o e=>Heap.get?_push_of_some _ e,Xz a _,⟨_,Heap.get?_push_size _ rfl,rfl,rfl⟩,fun b hb=>?_,q⟩
 have e:b=s1.heap.objs.size:=by simpa using hb
 subst e
 exact I1.fpOk (Nat.le_refl _) (I1.hok.fresh (Nat.le_refl _))
theorem Ahg {l:Expr}{tl:TE}(hl:PE X l tl):PI X tg l (Aml X.K tl):=by
 intro pins s σ H R I h
 refine thn (hl pins s σ H _ I h) fun v s1 ⟨x,H1,I1,r1,q1⟩=>?_
 obtain ⟨a,e,⟨xs,hq⟩,q⟩:=q1
 subst e
 cases r1
 obtain ⟨its,rv,p,hz⟩:=I1.tuple hq
 refine wpAny_pyIter_tuple (show s1.heap.IsTuple a its.toArray from p) ?_
 refine ⟨s1.heap.objs.size,[s1.heap.objs.size],_,_,H1,rfl,I1.kept (t':=s1.toks) fun b o e=>Heap.get?_push_of_some _ e,Ve a _,⟨_,Heap.get?_push_size _ rfl,rfl,rfl⟩,fun b hb=>?_,q⟩
 have e:b=s1.heap.objs.size:=by simpa using hb
 subst e
 exact I1.fpOk (Nat.le_refl _) (I1.hok.fresh (Nat.le_refl _))
theorem Zf {pins:List (Addr×Obj)}{σ:St}{H:Hp}{s:Shared}{R:It→Hp→Prop}{E:Value→Shared→Prop}{lo hi:Int}{t u v:Tok}{tk:Nat}(I:Ar X pins σ H s)(h1:-(2 ^ 62)≤lo)(h2:lo<2 ^ 62)(h3:-(2 ^ 62)≤hi)(h4:hi<2 ^ 62)
  (q:R (Itr lo (hi-lo).toNat) H):wpAny (model X.prog X.w) X.A (pyIter (.ref s.heap.objs.size)) (PIE X pins σ tg R) E { s with heap:=s.heap.push { cls:=.type "range",data:=.fields #[.int lo t,.int hi u,.int 1 v] },toks:=tk }:=by
 refine wpAny_pyIter_range (IsRange.new ..) (small_one h1 h2 h3 h4) ?_
 have I1:Ar X pins σ H { s with heap:=s.heap.push { cls:=.type "range",data:=.fields #[.int lo t,.int hi u,.int 1 v] },toks:=tk }:=I.kept fun b o e=>Heap.get?_push_of_some _ e
 refine ⟨(s.heap.push { cls:=.type "range",data:=.fields #[.int lo t,.int hi u,.int 1 v] }).objs.size,[(s.heap.push { cls:=.type "range",data:=.fields #[.int lo t,.int hi u,.int 1 v] }).objs.size],_,_,H,rfl,
  I1.kept (t':=tk) fun b o e=>Heap.get?_push_of_some _ e,U9 _ lo (hi-lo).toNat,?_,fun b hb=>?_,q⟩
 ·have e1:lo+((0:Nat):Int)*1=lo:=by simp
  have e2:(((hi-lo).toNat:Nat):Int)-((0:Nat):Int)=Builtin.Range.rangeSize lo hi 1:=by rw [rangeSize_one];split<;>omega
  show IsRangeIter _ _ (lo+((0:Nat):Int)*1) ((((hi-lo).toNat:Nat):Int)-((0:Nat):Int)) 1
  rw [e1,e2]
  exact Heap.get?_push_size _ rfl
 ·have e:b=(s.heap.push { cls:=.type "range",data:=.fields #[.int lo t,.int hi u,.int 1 v] }).objs.size:=by simpa using hb
  subst e
  exact I1.fpOk (Nat.le_refl _) (I1.hok.fresh (Nat.le_refl _))
def Ajh (ta:TA):TI:=fun σ H R=>ta σ H fun vs H1=>∃j:Int,vs=[.int j]∧-(2 ^ 62)≤j∧j<2 ^ 62∧R (Itr 0 j.toNat) H1
theorem Di {a:Expr}{ta:TA}{p pos:Pos}(hg:Gl X "range")(hm:X.mg "range"=none)(ha:PA X [a] ta)(hs:starEach [a] X.env=[(false,eval a X.env)]:=by rfl):PI X tg (.Call (.Name "range" p) [a] [] pos) (Ajh ta):=by
 intro pins s σ H R I h
 refine Call_ (E6 I hg hm boot_range (PyProof.Rows.callWith_type1 (thn (ha pos pins s σ H _ I h) fun us s1 ⟨vs,H1,I1,r1,q1⟩=>?_) hs rfl))
 obtain ⟨j,e,q1,q2,q⟩:=q1
 subst e
 cases r1 with
 |cons r rr=>
  cases rr
  obtain ⟨t,rfl⟩:=r
  exact call_range_1 (Zf I1 (by omega) (by omega) q1 q2 (by simpa using q))
def Ale (wi:TI)(g:TG)(tb:TS):TS:=fun D σ H=>wi σ H fun J H1=>∃W:Nat→Nat→St→Hp→Prop,(∃m,W 0 m σ H1)∧∀i m σ H,W i m σ H →
 (J.stop i H∧D.nx σ H)∨(J.go i H∧∃N:St→Hp→Prop,(∀σ' H',N σ' H'→∃m',m'<m∧W (i+1) m' σ' H')∧∀x H',J.yld i H x H'→g x σ H' fun σ2 H2=>tb { D with nx:=N,ct:=N,bk:=D.nx } σ2 H2)
def Re (fp:List Addr)(h:Heap):List (Addr×Obj):=fp.filterMap fun b=>(h.get? b).map fun o=>(b,o)
theorem Ch {fp:List Addr}{h:Heap}{b:Addr}{o:Obj}(hb:b∈fp)(e:h.get? b=some o):(b,o)∈Re fp h:=List.mem_filterMap.mpr ⟨b,hb,by rw [e];rfl⟩
theorem Yk {fp:List Addr}{h:Heap}{p:Addr×Obj}(hp:p∈Re fp h):p.1∈fp∧h.get? p.1=some p.2:=by
 obtain ⟨b,hb,e⟩:=List.mem_filterMap.mp hp
 cases q:h.get? b with
 |none=>rw [q] at e;cases e
 |some o=>
  rw [q] at e
  have e':(b,o)=p:=Option.some.inj e
  subst e'
  exact ⟨hb,q⟩
theorem Ar.pinned {pins:List (Addr×Obj)}{σ:St}{H:Hp}{s:Shared}{fp:List Addr}(I:Ar X pins σ H s)(hf:∀b∈fp,Jw X pins H b)(ho:∀b∈fp,∃o,s.heap.get? b=some o∧∀v,o.data≠.cell v):Ar X (pins++Re fp s.heap) σ H s:=
 I.pins_of fun p hp=>(List.mem_append.mp hp).elim (fun z=>I.pin p (List.mem_append_right _ z)) fun z=>by
  obtain ⟨hb,e⟩:=Yk z
  obtain ⟨f0,f1,f2,_⟩:=hf p.1 hb
  obtain ⟨o,e',d⟩:=ho p.1 hb
  rw [e] at e';cases e'
  exact ⟨e,f0,f1,f2,d⟩
theorem Ar.unpinned {pins pl:List (Addr×Obj)}{σ:St}{H:Hp}{s:Shared}(I:Ar X (pins++pl) σ H s):Ar X pins σ H s:=I.pins_of fun p hp=>I.pin p (List.mem_append_right _ (List.mem_append_left _ hp))
theorem G7 {iter:Expr}{body:List Stmt}{wi:TI}{g:TG}{tb:TS}{pos:Pos}(hp:PassesOwn (model X.prog X.w) X.A X.env X.xe)(hc:X.calm=true)(hi:PI X tg iter wi)(hg:PG X tg g)(hb:Mg X body tb)
  (hs:∀x,foldedSetIterable iter X.env x=pure x:=by intro _;rfl):PS X (.For tg iter body [] pos) (Ale wi g tb):=by
 intro pins s σ H D I h
 refine wpAny_For (thn (hi pins s σ H _ I h) fun v s1 h1=>thn h1 fun itv s2 h2=>?_) hs
 obtain ⟨it,fp,tn,J,H2,e,I2,T,st2,f2,W,⟨m0,w0⟩,turn⟩:=h2
 subst e
 have stat:∀{H':Hp},(∀b∈fp,H' b=none)→∀b∈fp,Jw X pins H' b:=fun hn b hb=>⟨hn b hb,(f2 b hb).2⟩
 refine codeAny_forLoop_any (fun n s'=>∃i σ' H',Ar X pins σ' H' s'∧tn i s'.heap∧(∀b∈fp,H' b=none)∧W i n σ' H') ?_ m0 ⟨0,σ,H2,I2,st2,fun b hb=>(f2 b hb).1,w0⟩
 rintro n s3 ⟨i,σ3,H3,I3,st3,fr3,w3⟩
 rcases turn i n σ3 H3 w3 with ⟨stop,qn⟩|⟨go,N,hN,step⟩
 ·refine wpAny_passesOwn hp (thn (T.done X rfl rfl rfl hc i pins s3 σ3 H3 X.xe I3 (stat fr3) st3 stop) fun r s4 ⟨hr,I4⟩=>?_)
  subst hr
  exact wpAny_execs_nil ⟨σ3,H3,I4,qn⟩
 ·refine wpAny_passesOwn hp (thn (T.item X rfl rfl rfl hc i pins s3 σ3 H3 X.xe I3 (stat fr3) st3 go) fun r s4 ⟨u,hr,h4⟩=>?_)
  subst hr
  refine wpAny_passesOwn hp (thn h4 fun _ s5 ⟨x,H5,I5,r5,y5,st5,fr5⟩=>?_)
  have I5':=I5.pinned (stat fr5) (T.obj _ _ st5)
  refine wpAny_passesOwn hp (thn (hg _ s5 σ3 H5 x u _ I5' r5 (step x H5 y5)) fun _ s6 ⟨σ6,H6,I6,q6⟩=>?_)
  refine wpAny_passesOwn hp (thn (hb _ s6 σ6 H6 _ I6 q6) fun f s7 q7=>?_)
  have again:∀{σ7:St} {H7:Hp},Ar X (pins++Re fp s5.heap) σ7 H7 s7→N σ7 H7→∃m,m<n∧∃i σ' H',Ar X pins σ' H' s7∧tn i s7.heap∧(∀b∈fp,H' b=none)∧W i m σ' H':=fun {σ7 H7} I7 n7=>by
   obtain ⟨m',hm,w7⟩:=hN σ7 H7 n7
   refine ⟨m',hm,i+1,σ7,H7,I7.unpinned,T.keep _ _ _ st5 fun b hb o e=>(I7.pin (b,o) (List.mem_append_right _ (List.mem_append_right _ (Ch hb e)))).1,fun b hb=>?_,w7⟩
   obtain ⟨o,e,d⟩:=T.obj _ _ st5 b hb
   exact (I7.pin (b,o) (List.mem_append_right _ (List.mem_append_right _ (Ch hb e)))).2.1
  cases f with
  |next=>obtain ⟨σ7,H7,I7,n7⟩:=q7;exact again I7 n7
  |cont=>obtain ⟨σ7,H7,I7,n7⟩:=q7;exact again I7 n7
  |brk=>obtain ⟨σ7,H7,I7,q7⟩:=q7;exact ⟨σ7,H7,I7.unpinned,q7⟩
  |ret v=>obtain ⟨x7,σ7,H7,I7,r7,q7⟩:=q7;exact ⟨x7,σ7,H7,I7.unpinned,r7,q7⟩
end
theorem Lj {K:PySem.W.Frag}{a:Addr}{xs:List V}{g:TG}{tb:TS}{D:Rq}{σ:St}{H:Hp}(Pv:Nat→St→Hp→Prop)(h0:Pv 0 σ H)(hl:∀i σ H,i≤xs.length→Pv i σ H→Ay K H a xs)
  (hs:∀i x σ H,xs[i]? =some x→Pv i σ H→g x σ H fun σ2 H2=>tb { D with nx:=Pv (i+1),ct:=Pv (i+1),bk:=D.nx } σ2 H2) (hd:∀σ H,Pv xs.length σ H→D.nx σ H) :
  ∃W:Nat→Nat→St→Hp→Prop,(∃m,W 0 m σ H)∧∀i m σ H,W i m σ H →
   ((Itl K a).stop i H∧D.nx σ H)∨((Itl K a).go i H∧∃N:St→Hp→Prop,(∀σ' H',N σ' H'→∃m',m'<m∧W (i+1) m' σ' H')∧∀x H',(Itl K a).yld i H x H'→g x σ H' fun σ2 H2=>tb { D with nx:=N,ct:=N,bk:=D.nx } σ2 H2):=by
 refine ⟨fun i m σ H=>m=xs.length-i∧i≤xs.length∧Pv i σ H,⟨xs.length,by simp,Nat.zero_le _,h0⟩,?_⟩
 rintro i m σ H ⟨rfl,hi,p⟩
 have q:=hl i σ H hi p
 by_cases hlt:i<xs.length
 ·refine .inr ⟨⟨xs,xs[i],q,by simp [hlt]⟩,Pv (i+1),fun σ' H' p'=>⟨xs.length-(i+1),by omega,rfl,hlt,p'⟩,fun x H' y=>?_⟩
  obtain ⟨e,y⟩:=y
  subst e
  exact hs i x σ _ (y xs q) p
 ·have e:i=xs.length:=by omega
  subst e
  exact .inl ⟨⟨xs,q,Nat.le_refl _⟩,hd σ H p⟩
theorem Ac1 {K:PySem.W.Frag}{a:Addr}{xs:List V}{g:TG}{tb:TS}{D:Rq}{σ:St}{H:Hp}(Pv:Nat→St→Hp→Prop)(h0:Pv 0 σ H)(hl:∀i σ H,i≤xs.length→Pv i σ H→E4 K H a xs)
  (hs:∀i x σ H,xs[i]? =some x→Pv i σ H→g x σ H fun σ2 H2=>tb { D with nx:=Pv (i+1),ct:=Pv (i+1),bk:=D.nx } σ2 H2) (hd:∀σ H,Pv xs.length σ H→D.nx σ H) :
  ∃W:Nat→Nat→St→Hp→Prop,(∃m,W 0 m σ H)∧∀i m σ H,W i m σ H →
   ((Itt K a).stop i H∧D.nx σ H)∨((Itt K a).go i H∧∃N:St→Hp→Prop,(∀σ' H',N σ' H'→∃m',m'<m∧W (i+1) m' σ' H')∧∀x H',(Itt K a).yld i H x H'→g x σ H' fun σ2 H2=>tb { D with nx:=N,ct:=N,bk:=D.nx } σ2 H2):=by
 refine ⟨fun i m σ H=>m=xs.length-i∧i≤xs.length∧Pv i σ H,⟨xs.length,by simp,Nat.zero_le _,h0⟩,?_⟩
 rintro i m σ H ⟨rfl,hi,p⟩
 have q:=hl i σ H hi p
 by_cases hlt:i<xs.length
 ·refine .inr ⟨⟨xs,xs[i],q,by simp [hlt]⟩,Pv (i+1),fun σ' H' p'=>⟨xs.length-(i+1),by omega,rfl,hlt,p'⟩,fun x H' y=>?_⟩
  obtain ⟨e,y⟩:=y
  subst e
  exact hs i x σ _ (y xs q) p
 ·have e:i=xs.length:=by omega
  subst e
  exact .inl ⟨⟨xs,q,Nat.le_refl _⟩,hd σ H p⟩
theorem J4 {lo:Int}{n:Nat}{g:TG}{tb:TS}{D:Rq}{σ:St}{H:Hp}(Pv:Nat→St→Hp→Prop)(h0:Pv 0 σ H)
  (hs:∀i σ H,i<n→Pv i σ H→g (.int (lo+i)) σ H fun σ2 H2=>tb { D with nx:=Pv (i+1),ct:=Pv (i+1),bk:=D.nx } σ2 H2) (hd:∀σ H,Pv n σ H→D.nx σ H) :
  ∃W:Nat→Nat→St→Hp→Prop,(∃m,W 0 m σ H)∧∀i m σ H,W i m σ H →
   ((Itr lo n).stop i H∧D.nx σ H)∨((Itr lo n).go i H∧∃N:St→Hp→Prop,(∀σ' H',N σ' H'→∃m',m'<m∧W (i+1) m' σ' H')∧∀x H',(Itr lo n).yld i H x H'→g x σ H' fun σ2 H2=>tb { D with nx:=N,ct:=N,bk:=D.nx } σ2 H2):=by
 refine ⟨fun i m σ H=>m=n-i∧i≤n∧Pv i σ H,⟨n,by simp,Nat.zero_le _,h0⟩,?_⟩
 rintro i m σ H ⟨rfl,hi,p⟩
 by_cases hlt:i<n
 ·refine .inr ⟨hlt,Pv (i+1),fun σ' H' p'=>⟨n-(i+1),by omega,rfl,hlt,p'⟩,fun x H' y=>?_⟩
  obtain ⟨e,y⟩:=y
  subst e y
  exact hs i σ _ hlt p
 ·have e:i=n:=by omega
  subst e
  exact .inl ⟨Nat.le_refl _,hd σ H p⟩
end L2
namespace L2
open PySem PySem.Spec PyProof.Rows
abbrev R2:=V→V→Hp→VK→Prop
def Dv (X:Cx)(f:Value→Value→Sem Value)(r:R2):Prop:=
 ∀(pins:List (Addr×Obj)) (s:Shared) (σ:St) (H:Hp) (x y:V) (v u:Value) (Q:VK),Ar X pins σ H s→RelV x v→RelV y u→r x y H Q →
  wpAny (model X.prog X.w) X.A (f v u) (EP X pins σ Q) X.xe s
def UnR (X:Cx)(f:Value→Sem Value)(r:V→Hp→VK→Prop):Prop:=
 ∀(pins:List (Addr×Obj)) (s:Shared) (σ:St) (H:Hp) (x:V) (v:Value) (Q:VK),Ar X pins σ H s→RelV x v→r x H Q →
  wpAny (model X.prog X.w) X.A (f v) (EP X pins σ Q) X.xe s
def Ed (X:Cx)(f:Value)(r:List V→Hp→VK→Prop):Prop:=
 ∀(pins:List (Addr×Obj)) (s:Shared) (σ:St) (H:Hp) (xs:List V) (us:List Value) (Q:VK),Ar X pins σ H s→A4 xs us→r xs H Q →
  wpAny (model X.prog X.w) X.A (call f us) (EP X pins σ Q) X.xe s
def tOp (r:R2)(ta tb:TE):TE:=fun σ H Q=>ta σ H fun x H1=>tb σ H1 fun y H2=>r x y H2 Q
def tUn (r:V→Hp→VK→Prop)(ta:TE):TE:=fun σ H Q=>ta σ H fun x H1=>r x H1 Q
def rI (C:Int→Int→Prop)(g:Int→Int→V):R2:=fun x y H Q=>∃i j,x=.int i∧y=.int j∧C i j∧Q (g i j) H
def rI0 (g:Int→Int→V):R2:=fun x y H Q=>∃i j,x=.int i∧y=.int j∧Q (g i j) H
def rU (g:Int→V):V→Hp→VK→Prop:=fun x H Q=>∃i,x=.int i∧Q (g i) H
section
variable {X:Cx}{a b c:Expr}{ta tb tc:TE}{pos:Pos}
theorem Aio (ha:PE X a ta)(hb:PE X b tb){pins:List (Addr×Obj)}{s:Shared}{σ:St}{H:Hp}{R:V→V→Hp→Prop}(I:Ar X pins σ H s)
  (h:ta σ H fun x H1=>tb σ H1 fun y H2=>R x y H2) {Q:Value→Shared→Prop} {f:Value→Value→Sem Value}
  (hf:∀v u s2 x y H2,Ar X pins σ H2 s2→RelV x v→RelV y u→R x y H2→wpAny (model X.prog X.w) X.A (f v u) Q X.xe s2) :
  wpAny (model X.prog X.w) X.A (eval a X.env) (fun v s₁=>wpAny (model X.prog X.w) X.A (eval b X.env) (fun u s₂=>wpAny (model X.prog X.w) X.A (f v u) Q X.xe s₂) X.xe s₁) X.xe s:=by
 refine thn (ha pins s σ H _ I h) fun v s1 ⟨x,H1,I1,r1,q1⟩=>?_
 refine thn (hb pins s1 σ H1 _ I1 q1) fun u s2 ⟨y,H2,I2,r2,q2⟩=>?_
 exact hf v u s2 x y H2 I2 r1 r2 q2
theorem Aj {op:Operator}{r:R2}(ho:Dv X (binaryOp op) r)(ha:PE X a ta)(hb:PE X b tb):PE X (.BinOp a op b pos) (tOp r ta tb):=by
 intro pins s σ H Q I h
 exact wpAny_BinOp (Aio ha hb I h fun v u s2 x y H2 I2 rx ry q=>ho pins s2 σ H2 x y v u Q I2 rx ry q)
theorem Op {op:UnaryOp}{r:V→Hp→VK→Prop}(ho:UnR X (unaryOp op) r)(ha:PE X a ta):PE X (.UnaryOp op a pos) (tUn r ta):=by
 intro pins s σ H Q I h
 exact UnaryOp_ (thn (ha pins s σ H _ I h) fun v s1 ⟨x,H1,I1,r1,q1⟩=>ho pins s1 σ H1 x v Q I1 r1 q1)
theorem opI {f:Value→Value→Sem Value}{C:Int→Int→Prop}{g:Int→Int→Int}
  (rule:∀(i j:Int) (t u:Tok) (s:Shared) (Q:Value→Shared→Prop) (E:Value→Shared→Prop),C i j→Q (.int (g i j) s.toks) { s with toks:=s.toks+1 }→wpAny (model X.prog X.w) X.A (f (.int i t) (.int j u)) Q E s) :
  Dv X f (rI C fun i j=>.int (g i j)):=by
 intro pins s σ H x y v u Q I rx ry h
 obtain ⟨i,j,rfl,rfl,hc,q⟩:=h
 obtain ⟨t,rfl⟩:=rx
 obtain ⟨t',rfl⟩:=ry
 exact rule i j t t' s _ _ hc ⟨.int (g i j),H,I.tok _,⟨_,rfl⟩,q⟩
theorem Ajo {f:Value→Value→Sem Value}{g:Int→Int→Int}
  (rule:∀(i j:Int) (t u:Tok) (s:Shared) (Q:Value→Shared→Prop) (E:Value→Shared→Prop),Q (.int (g i j) s.toks) { s with toks:=s.toks+1 }→wpAny (model X.prog X.w) X.A (f (.int i t) (.int j u)) Q E s) :
  Dv X f (rI0 fun i j=>.int (g i j)):=by
 intro pins s σ H x y v u Q I rx ry h
 obtain ⟨i,j,rfl,rfl,q⟩:=h
 obtain ⟨t,rfl⟩:=rx
 obtain ⟨t',rfl⟩:=ry
 exact rule i j t t' s _ _ ⟨.int (g i j),H,I.tok _,⟨_,rfl⟩,q⟩
theorem Ah5 {f:Value→Value→Sem Value}{g:Int→Int→Bool}
  (rule:∀(i j:Int) (t u:Tok) (s:Shared) (Q:Value→Shared→Prop) (E:Value→Shared→Prop),Q (.bool (g i j)) s→wpAny (model X.prog X.w) X.A (f (.int i t) (.int j u)) Q E s) :
  Dv X f (rI0 fun i j=>.bl (g i j)):=by
 intro pins s σ H x y v u Q I rx ry h
 obtain ⟨i,j,rfl,rfl,q⟩:=h
 obtain ⟨t,rfl⟩:=rx
 obtain ⟨t',rfl⟩:=ry
 exact rule i j t t' s _ _ ⟨.bl (g i j),H,I,rfl,q⟩
def Ai0 (i j:Int):Prop:=0≤j∧j≤1000000∧i.natAbs<2 ^ 64
def Aij (i j:Int):Prop:=(-(2 ^ 64)<i∧i<2 ^ 64)∨(-(2 ^ 64)<j∧j<2 ^ 64)
theorem Aij.ok {i j:Int}(h:Aij i j):IntMulOk i j:=by
 rcases h with ⟨h1,h2⟩|⟨h1,h2⟩
 ·exact .of_left (intBits_le_64 h1 h2)
 ·exact .of_right (intBits_le_64 h1 h2)
theorem Agu:Dv X (binaryOp .Add) (rI0 fun i j=>.int (i+j)):=Ajo fun _ _ _ _ _ _ _ q=>add_int q
theorem Afq:Dv X (binaryOp .Sub) (rI0 fun i j=>.int (i-j)):=Ajo fun _ _ _ _ _ _ _ q=>sub_int q
theorem Aha:Dv X (binaryOp .Mod) (rI (fun _ j=>0<j) fun i j=>.int (i % j)):=opI fun i j _ _ _ _ _ hc q=>by
 have h1:(0:Int)<j:=hc
 exact mod_int' (by omega) (by rw [Int.fmod_eq_emod_of_nonneg i (by omega)];exact q)
theorem Act:Dv X (binaryOp .Mod) (rI (fun _ j=>j≠0) fun i j=>.int (i.fmod j)):=opI fun _ _ _ _ _ _ _ hc q=>mod_int' hc q
theorem Ahq:Dv X (binaryOp .Pow) (rI Ai0 fun i j=>.int (i ^ j.toNat)):=opI fun _ _ _ _ _ _ _ hc q=>pow_int_small hc.1 hc.2.1 hc.2.2 q
theorem unI {f:Value→Sem Value}{g:Int→Int}
  (rule:∀(i:Int) (t:Tok) (s:Shared) (Q:Value→Shared→Prop) (E:Value→Shared→Prop),Q (.int (g i) s.toks) { s with toks:=s.toks+1 }→wpAny (model X.prog X.w) X.A (f (.int i t)) Q E s) :
  UnR X f (rU fun i=>.int (g i)):=by
 intro pins s σ H x v Q I rx h
 obtain ⟨i,rfl,q⟩:=h
 obtain ⟨t,rfl⟩:=rx
 exact rule i t s _ _ ⟨.int (g i),H,I.tok _,⟨_,rfl⟩,q⟩
theorem Ahf:UnR X (unaryOp .USub) (rU fun i=>.int (-i)):=unI fun _ _ _ _ _ q=>neg_int q
end
def Akr:V→V→Bool
 |.non,.non=>true|.non,.int _=>true|.int _,.non=>true|.non,.bl _=>true|.bl _,.non=>true|.non,.str _=>true|.str _,.non=>true
 |.int _,.int _=>true|.bl _,.bl _=>true|.str _,.str _=>true|.byt _,.byt _=>true
 |.int _,.str _=>true|.str _,.int _=>true|.bl _,.str _=>true|.str _,.bl _=>true
 |_,_=>false
def rEq:R2:=fun x y H Q=>Akr x y=true∧Q (.bl (decide (x=y))) H
def rNe:R2:=fun x y H Q=>Akr x y=true∧Q (.bl (!decide (x=y))) H
theorem V8 {i j:Int}:decide (V.int i=V.int j)=(i==j):=by
 rw [Bool.eq_iff_iff]
 simp
theorem P7 {i j:Bool}:decide (V.bl i=V.bl j)=(i==j):=by
 rw [Bool.eq_iff_iff]
 simp
theorem V6 {i j:Str}:decide (V.str i=V.str j)=(i==j):=by
 rw [Bool.eq_iff_iff]
 simp
theorem We {i j:Array UInt8}:decide (V.byt i=V.byt j)=(i.toList==j.toList):=by
 rw [Bool.eq_iff_iff]
 cases i
 cases j
 simp
section
variable {X:Cx}{a b c:Expr}{ta tb tc:TE}{pos:Pos}
theorem Bc {pins:List (Addr×Obj)}{σ:St}{H:Hp}{s:Shared}{Q:VK}{k k':Bool}(I:Ar X pins σ H s)(q:Q (.bl k) H)(e:k=k'):EP X pins σ Q (.bool k') s:=by
 subst e
 exact ⟨.bl k,H,I,rfl,q⟩
theorem Ai7:Dv X (compareOp .Eq) rEq:=by
 intro pins s σ H x y v u Q I rx ry h
 obtain ⟨hs,q⟩:=h
 cases x with
 |non=>
  cases rx
  cases y with
  |non=>cases ry;exact PySem.EqNone.eq_none_none (Bc I q (by simp))
  |bl j=>cases ry;exact PySem.EqNone.eq_none_bool (Bc I q (by simp))
  |int j=>obtain ⟨t',rfl⟩:=ry;exact PySem.EqNone.eq_none_int (Bc I q (by simp))
  |str j=>obtain ⟨t',rfl⟩:=ry;exact PySem.EqNone.eq_none_str (Bc I q (by simp))
  |_=>exact absurd (show false=true from hs) Bool.false_ne_true
 |bl i=>
  cases rx
  cases y with
  |non=>cases ry;exact PySem.EqNone.eq_bool_none (Bc I q (by simp))
  |bl j=>cases ry;exact eq_bool (Bc I q P7)
  |str j=>obtain ⟨t',rfl⟩:=ry;exact PySem.EqMixed.eq_bool_str (Bc I q (by simp))
  |_=>exact absurd (show false=true from hs) Bool.false_ne_true
 |int i=>
  obtain ⟨t,rfl⟩:=rx
  cases y with
  |non=>cases ry;exact PySem.EqNone.eq_int_none (Bc I q (by simp))
  |int j=>obtain ⟨t',rfl⟩:=ry;exact eq_int (Bc I q V8)
  |str j=>obtain ⟨t',rfl⟩:=ry;exact PySem.EqMixed.eq_int_str (Bc I q (by simp))
  |_=>exact absurd (show false=true from hs) Bool.false_ne_true
 |str i=>
  obtain ⟨t,rfl⟩:=rx
  cases y with
  |non=>cases ry;exact PySem.EqNone.eq_str_none (Bc I q (by simp))
  |bl j=>cases ry;exact PySem.EqMixed.eq_str_bool (Bc I q (by simp))
  |int j=>obtain ⟨t',rfl⟩:=ry;exact PySem.EqMixed.eq_str_int (Bc I q (by simp))
  |str j=>obtain ⟨t',rfl⟩:=ry;exact eq_str (Bc I q V6)
  |_=>exact absurd (show false=true from hs) Bool.false_ne_true
 |byt i=>
  obtain ⟨t,rfl⟩:=rx
  cases y with
  |byt j=>obtain ⟨t',rfl⟩:=ry;exact PySem.W.eq_bytes (Bc I q We)
  |_=>exact absurd (show false=true from hs) Bool.false_ne_true
 |_=>cases y<;>exact absurd (show false=true from hs) Bool.false_ne_true
theorem Akh:Dv X (compareOp .NotEq) rNe:=by
 intro pins s σ H x y v u Q I rx ry h
 obtain ⟨hs,q⟩:=h
 cases x with
 |non=>
  cases rx
  cases y with
  |non=>cases ry;exact PySem.EqNone.ne_none_none (Bc I q (by simp))
  |bl j=>cases ry;exact PySem.EqNone.ne_none_bool (Bc I q (by simp))
  |int j=>obtain ⟨t',rfl⟩:=ry;exact PySem.EqNone.ne_none_int (Bc I q (by simp))
  |str j=>obtain ⟨t',rfl⟩:=ry;exact PySem.EqNone.ne_none_str (Bc I q (by simp))
  |_=>exact absurd (show false=true from hs) Bool.false_ne_true
 |bl i=>
  cases rx
  cases y with
  |non=>cases ry;exact PySem.EqNone.ne_bool_none (Bc I q (by simp))
  |bl j=>cases ry;exact ne_bool (Bc I q (congrArg not P7))
  |str j=>obtain ⟨t',rfl⟩:=ry;exact PySem.EqMixed.ne_bool_str (Bc I q (by simp))
  |_=>exact absurd (show false=true from hs) Bool.false_ne_true
 |int i=>
  obtain ⟨t,rfl⟩:=rx
  cases y with
  |non=>cases ry;exact PySem.EqNone.ne_int_none (Bc I q (by simp))
  |int j=>obtain ⟨t',rfl⟩:=ry;exact ne_int (Bc I q (congrArg not V8))
  |str j=>obtain ⟨t',rfl⟩:=ry;exact PySem.EqMixed.ne_int_str (Bc I q (by simp))
  |_=>exact absurd (show false=true from hs) Bool.false_ne_true
 |str i=>
  obtain ⟨t,rfl⟩:=rx
  cases y with
  |non=>cases ry;exact PySem.EqNone.ne_str_none (Bc I q (by simp))
  |bl j=>cases ry;exact PySem.EqMixed.ne_str_bool (Bc I q (by simp))
  |int j=>obtain ⟨t',rfl⟩:=ry;exact PySem.EqMixed.ne_str_int (Bc I q (by simp))
  |str j=>obtain ⟨t',rfl⟩:=ry;exact ne_str (Bc I q (congrArg not V6))
  |_=>exact absurd (show false=true from hs) Bool.false_ne_true
 |byt i=>
  obtain ⟨t,rfl⟩:=rx
  cases y with
  |byt j=>obtain ⟨t',rfl⟩:=ry;exact PySem.W.ne_bytes (Bc I q (congrArg not We))
  |_=>exact absurd (show false=true from hs) Bool.false_ne_true
 |_=>cases y<;>exact absurd (show false=true from hs) Bool.false_ne_true
theorem Ai1:Dv X (compareOp .Lt) (rI0 fun i j=>.bl (decide (i<j))):=Ah5 fun _ _ _ _ _ _ _ q=>lt_int q
theorem Ako:Dv X (compareOp .LtE) (rI0 fun i j=>.bl (decide (i≤j))):=Ah5 fun _ _ _ _ _ _ _ q=>le_int q
theorem Ake:Dv X (compareOp .Gt) (rI0 fun i j=>.bl (decide (j<i))):=Ah5 fun _ _ _ _ _ _ _ q=>gt_int q
theorem A5 (b:Expr){op:CmpOp}(h:op≠.In:=by decide)(h2:op≠.NotIn:=by decide):behindInMarks op b=false:=by
 have e1:(op==CmpOp.In)=false:=by cases op<;>first|rfl|exact absurd rfl h
 have e2:(op==CmpOp.NotIn)=false:=by cases op<;>first|rfl|exact absurd rfl h2
 cases b<;>simp [behindInMarks,e1,e2]
theorem Du {op:CmpOp}{r:R2}(ho:Dv X (compareOp op) r)(ha:PE X a ta)(hb:PE X b tb)(hm:behindInMarks op b=false):PE X (.Compare a [op] [b] pos) (tOp r ta tb):=by
 intro pins s σ H Q I h
 exact wpAny_Compare1 (Aio ha hb I h fun v u s2 x y H2 I2 rx ry q=>ho pins s2 σ H2 x y v u Q I2 rx ry q) hm
def Wp (t:TE):TT:=fun σ H Q=>t σ H fun x H'=>∃k,x=.bl k∧Q k H'
theorem Adt {op:CmpOp}{r:R2}(ho:Dv X (compareOp op) r)(ha:PE X a ta)(hb:PE X b tb)(hm:behindInMarks op b=false):PT X (.Compare a [op] [b] pos) (Wp (tOp r ta tb)):=by
 intro pins s σ H Q I h
 refine wpAny_isTrue_Compare1 (thn (ha pins s σ H _ I h) fun v s1 ⟨x,H1,I1,r1,q1⟩=>thn (hb pins s1 σ H1 _ I1 q1) fun u s2 ⟨y,H2,I2,r2,q2⟩=>
  thn (ho pins s2 σ H2 x y v u _ I2 r1 r2 q2) fun c s3 ⟨z,H3,I3,r3,k,e,q3⟩=>?_) hm
 subst e
 cases r3
 exact wpAny_truthy_bool ⟨H3,I3,q3⟩
def Qk (r r':R2)(ta tb tc:TE):TE:=fun σ H Q=>ta σ H fun x H1=>tb σ H1 fun y H2=>r x y H2 fun z H3=>∃k,z=.bl k ∧
 (if k=true then tc σ H3 fun w' H4=>r' y w' H4 Q else Q (.bl false) H3)
theorem Zr {op op':CmpOp}{r r':R2}(ho:Dv X (compareOp op) r)(ho':Dv X (compareOp op') r')(ha:PE X a ta)(hb:PE X b tb)(hc:PE X c tc)
  (hm:lastMarks [op,op'] [b,c]=false:=by with_unfolding_all rfl):PE X (.Compare a [op,op'] [b,c] pos) (Qk r r' ta tb tc):=by
 intro pins s σ H Q I h
 refine Compare_chain (thn (ha pins s σ H _ I h) fun v s1 ⟨x,H1,I1,r1,q1⟩=>chain_link (thn (hb pins s1 σ H1 _ I1 q1) fun u s2 ⟨y,H2,I2,r2,q2⟩=>
  thn (ho pins s2 σ H2 x y v u _ I2 r1 r2 q2) fun d s3 ⟨z,H3,I3,r3,k,e,q3⟩=>?_)) hm
 subst e
 cases r3
 refine wpAny_truthy_bool ?_
 cases k with
 |false=>exact ite_ff ⟨.bl false,H3,I3,rfl,q3⟩
 |true=>exact ite_tt (chain_last (thn (hc pins s3 σ H3 _ I3 q3) fun w' s4 ⟨z',H4,I4,r4,q4⟩=>ho' pins s4 σ H4 y z' u w' Q I4 r2 r4 q4))
theorem Abf {op op':CmpOp}{r r':R2}(ho:Dv X (compareOp op) r)(ho':Dv X (compareOp op') r')(ha:PE X a ta)(hb:PE X b tb)(hc:PE X c tc)
  (hm:lastMarks [op,op'] [b,c]=false:=by with_unfolding_all rfl):PT X (.Compare a [op,op'] [b,c] pos) (Wp (Qk r r' ta tb tc)):=by
 intro pins s σ H Q I h
 refine isTrue_chain (thn (ha pins s σ H _ I h) fun v s1 ⟨x,H1,I1,r1,q1⟩=>test_link (thn (hb pins s1 σ H1 _ I1 q1) fun u s2 ⟨y,H2,I2,r2,q2⟩=>
  thn (ho pins s2 σ H2 x y v u _ I2 r1 r2 q2) fun d s3 ⟨z,H3,I3,r3,k,e,q3⟩=>?_)) hm
 subst e
 cases r3
 refine wpAny_truthy_bool ?_
 cases k with
 |false=>
  obtain ⟨k',e',q'⟩:=q3
  cases e'
  exact ite_ff ⟨H3,I3,q'⟩
 |true=>
  refine ite_tt (test_last (thn (hc pins s3 σ H3 _ I3 q3) fun w' s4 ⟨z',H4,I4,r4,q4⟩=>thn (ho' pins s4 σ H4 y z' u w' _ I4 r2 r4 q4) fun d' s5 ⟨z2,H5,I5,r5,k2,e2,q5⟩=>?_))
  subst e2
  cases r5
  exact wpAny_truthy_bool ⟨H5,I5,q5⟩
theorem Mq:(sizeLine:Nat)<2 ^ 63:=by rw [sizeLine_eq];decide
theorem Vb:Dv X (binaryOp .Add) (fun x y H Q=>∃i j,x=.str i∧y=.str j∧i.length+j.length≤sizeLine∧Q (.str (i++j)) H):=by
 intro pins s σ H x y v u Q I rx ry h
 obtain ⟨i,j,rfl,rfl,hz,q⟩:=h
 obtain ⟨t,rfl⟩:=rx
 obtain ⟨t',rfl⟩:=ry
 exact add_str (fun t' tk=>⟨.str (i++j),H,I.tok _,⟨_,rfl⟩,q⟩) hz
theorem K1 {x:V}{us:List Value}(r:A4 [x] us):∃u,us=[u]∧RelV x u:=by
 cases r with
 |cons r1 r2=>cases r2;exact ⟨_,rfl,r1⟩
theorem Hk {x y:V}{us:List Value}(r:A4 [x,y] us):∃u w',us=[u,w']∧RelV x u∧RelV y w':=by
 cases r with
 |cons r1 r2=>
  cases r2 with
  |cons r3 r4=>cases r4;exact ⟨_,_,rfl,r1,r3⟩
theorem Aaq:Ed X (.builtin "abs") (fun xs H Q=>∃i,xs=[.int i]∧Q (.int (if i<0 then -i else i)) H):=by
 intro pins s σ H xs us Q I r h
 obtain ⟨i,rfl,q⟩:=h
 obtain ⟨u,rfl,t,rfl⟩:=K1 r
 exact call_abs_int fun u tk=>⟨.int (if i<0 then -i else i),H,I.tok _,⟨_,rfl⟩,q⟩
theorem Ys (hc:X.calm=true):Ed X (.builtin "max") (fun xs H Q=>∃i j,xs=[.int i,.int j]∧Q (.int (if j>i then j else i)) H):=by
 intro pins s σ H xs us Q I r h
 obtain ⟨i,j,rfl,q⟩:=h
 obtain ⟨u,w',rfl,⟨t,rfl⟩,⟨t',rfl⟩⟩:=Hk r
 refine max_two_ints (I.ok.hd hc) fun h' tk k=>⟨_,H,I.kept k,?_,q⟩
 by_cases hj:j>i
 ·rw [if_pos hj,if_pos hj];exact ⟨_,rfl⟩
 ·rw [if_neg hj,if_neg hj];exact ⟨_,rfl⟩
theorem Yc (hc:X.calm=true):Ed X (.builtin "min") (fun xs H Q=>∃i j,xs=[.int i,.int j]∧Q (.int (if j<i then j else i)) H):=by
 intro pins s σ H xs us Q I r h
 obtain ⟨i,j,rfl,q⟩:=h
 obtain ⟨u,w',rfl,⟨t,rfl⟩,⟨t',rfl⟩⟩:=Hk r
 refine min_two_ints (I.ok.hd hc) fun h' tk k=>⟨_,H,I.kept k,?_,q⟩
 by_cases hj:j<i
 ·rw [if_pos hj,if_pos hj];exact ⟨_,rfl⟩
 ·rw [if_neg hj,if_neg hj];exact ⟨_,rfl⟩
end
end L2
namespace L2
open PySem PySem.Spec PyProof.Rows
structure Vi (h:Heap)(x dx C:Addr)(mA:Str→Option Value):Prop where
 obj:h.get? x=some (PySem.W.instObj C dx)
 ns:h.Ns1 dx mA
 ne:dx≠x
theorem X9 {h:Heap}{dx:Addr}{mA:Str→Option Value}(n:h.Ns1 dx mA):∃od,h.get? dx=some od∧∀name,PySem.W.lookIn name od=some (mA name):=by
 obtain ⟨o,es,ep,ho,hd,hk,_,hm⟩:=n
 refine ⟨o,ho,fun name=>?_⟩
 have e:=hm name
 unfold nsFind findBy at e
 rw [←Array.find?_toList] at e
 unfold PySem.W.lookIn
 rw [hd]
 dsimp only
 split
 ·rename_i y q
  rw [q] at e
  exact congrArg some e
 ·rename_i q
  rw [q] at e
  have a:es.toList.any (·.refKey)=false:=by
   rw [List.any_eq_false]
   intro y hy
   obtain ⟨z,t,hkey⟩:=hk y (Array.mem_toList_iff.mp hy)
   simp [DictEntry.refKey,hkey]
  have a':¬es.toList.any (·.refKey)=true:=by rw [a];exact Bool.false_ne_true
  rw [if_neg a']
  exact congrArg some e
theorem Vi.look {h:Heap}{x dx C:Addr}{mA:Str→Option Value}(I:Vi h x dx C mA):∃od,PySem.W.InstAt h x (PySem.W.instObj C dx) C (some od)∧∀name,PySem.W.lookIn name od=some (mA name):=
 let ⟨od,ho,hl⟩:=X9 I.ns
 ⟨od,⟨I.obj,rfl,rfl,ho⟩,hl⟩
section
variable {prog:Program}{w:World}{A:Around}{E:Value→Shared→Prop}{s:Shared}{K:PySem.W.Frag}{x dx C f:Addr}{mA:Str→Option Value}{name:Str}{v:Value}
theorem Adu {expr:Bool}{Q:Value→Shared→Prop}(X:K.In s.heap)(I:Vi s.heap x dx C mA)(hg:PySem.W.plainGet K C name=true)(hh:PySem.W.hasDictIn K C=true)
  (ha:PySem.W.findIn K (.ref C) name=some none) (hv:mA name=some v) (hv':PySem.W.handedIn v=true) (h:Q v { s with toks:=s.toks+1 }) :
  wpAny (model prog w) A (getAttr (.ref x) name expr) Q E s:=by
 obtain ⟨od,J,hl⟩:=I.look
 exact PySem.W.get_value X J (PySem.W.plainGet_of hg).1 (PySem.W.findObj_own hh ha rfl (by rw [hl,hv])) hv' h
theorem Aaj {pl:Sem Bool}{Q:Value×List Value→Shared→Prop}(X:K.In s.heap)(I:Vi s.heap x dx C mA)(hg:PySem.W.plainGet K C name=true)
  (hf:PySem.W.findIn K (.ref C) name=some (some (.ref f))) (ht:PySem.W.isFn K (.ref f)=true) (hv:mA name=none) (h:Q (.ref f,[.ref x]) s) :
  wpAny (model prog w) A (getMethod (.ref x) name pl) Q E s:=by
 obtain ⟨od,J,hl⟩:=I.look
 exact PySem.W.method_fn X J (PySem.W.plainGet_of hg).1 (PySem.W.plainGet_of hg).2 hf (beq_iff_eq.mp ht) (by show (PySem.W.lookIn name od).map (·.isSome)=some false;rw [hl,hv];rfl) h
theorem Ad2 {ns:List Str}{Q:Unit→Shared→Prop}(X:K.In s.heap)(I:Vi s.heap x dx C mA)
  (hs:PySem.W.findIn K (.ref C) "__setattr__"=some (some (.builtin "object.__setattr__"))) (hp:PySem.W.plainOver K C=true) (ht:PySem.W.takerIn K C name=some none) (hh:PySem.W.hasDictIn K C=true)
  (hw:PySem.Within mA ns) (hsz:ns.length≤sizeLine)
  (h:∀h',Vi h' x dx C (fun y=>if y=name then some v else mA y)→Heap.SameBut dx s.heap h'→Q () { s with heap:=h',toks:=s.toks+2 }) :
  wpAny (model prog w) A (setAttr (.ref x) name v) Q E s:=by
 obtain ⟨od,J,hl⟩:=I.look
 refine PySem.W.set_plain X J hs (PySem.W.osa_open (s:={ s with toks:=s.toks+1 }) (r:=none) X J hp ht fun b=>?_)
 obtain ⟨cd,hc,hd'⟩:=PySem.W.any_some hh
 have hx:s.heap.get? x=some ⟨.ref C,some dx,.plain,#[]⟩:=I.obj
 refine wpAny_bind (wpAny_pure (wpAny_bind (wpAny_bind (wpAny_loadPart hx (wpAny_bind (PySem.W.Looks.here (s:={ s with toks:=s.toks+1 }) (PySem.W.looks_clsIn X hc) ?_))))))
 rw [hd']
 refine wpAny_pure (a:=some dx) (wpAny_bind (wpAny_pure (wpAny_bind ?_)))
 refine wpAny_nsSet1 (s:={ s with toks:=s.toks+1 }) I.ns fun h' hn2 hs2=>?_
 obtain ⟨oD,esD,epD,hoD,hdD,hcD⟩:=hn2.count (PySem.Within.cons name v hw)
 refine wpAny_bind (wpAny_lookBehind hoD (by rw [hdD];exact pastItsLine_dict (Nat.le_trans hcD (by rw [List.length_cons];omega))) ?_)
 exact wpAny_pure (h _ ⟨(hs2.2 _ (Ne.symm I.ne)).trans I.obj,hn2,I.ne⟩ hs2)
theorem Abc {R:Result→Shared→Prop}{vs:List Value}{kw:List (Str×Value)}(X:K.In s.heap)(hm:PySem.W.makesIn K C=true)
  (hi:PySem.W.findIn K (.ref C) "__init__"=some (some (.ref f))) (hf:PySem.W.typeIn K (.ref f)=some (.type "function"))
  (h:codeAny (model prog w) (A.under (.builtin "type.__call__" ⟨.ref C::vs,kw⟩)) (.call (.ref f) ⟨.ref (s.heap.objs.size+1)::vs,kw⟩) (PySem.W.InitBack (s.heap.objs.size+1) R)
   { s with heap:=(s.heap.push PySem.W.emptyDict).push (PySem.W.instObj C s.heap.objs.size) }) :
  codeAny (model prog w) A (.call (.ref C) ⟨vs,kw⟩) R s:=by
 obtain ⟨hh,g,d,t,os⟩:=s
 exact PySem.W.make_core (PySem.W.makes_of X hm) (PySem.W.looks_findIn X hi) (fun self=>PySem.W.bind_fn X self hf) (.inl rfl) h
end
def Ba (f:Str)(v:V):List (Str×V)→List (Str×V)
 |[]=>[(f,v)]
 |(g,x)::r=>if g=f then (g,v)::r else (g,x)::Ba f v r
theorem E1 (f g:Str)(v:V):∀fs:List (Str×V),(Ba f v fs).lookup g=if g=f then some v else fs.lookup g
 | []=>by
  show List.lookup g [(f,v)]=_
  by_cases h:g=f
  ·have hb:(g==f)=true:=beq_iff_eq.mpr h
   simp only [List.lookup,hb,if_pos h]
  ·have hb:(g==f)=false:=beq_eq_false_iff_ne.mpr h
   simp only [List.lookup,hb,if_neg h]
 | (k,x)::r=>by
  have ih:=E1 f g v r
  rw [show Ba f v ((k,x)::r)=(if k=f then (k,v)::r else (k,x)::Ba f v r) from rfl]
  by_cases hk:k=f
  ·rw [if_pos hk]
   by_cases h:g=k
   ·have hb:(g==k)=true:=beq_iff_eq.mpr h
    simp only [List.lookup,hb,if_pos (h.trans hk)]
   ·have hb:(g==k)=false:=beq_eq_false_iff_ne.mpr h
    simp only [List.lookup,hb,if_neg (fun e:g=f=>h (e.trans hk.symm))]
  ·rw [if_neg hk]
   by_cases h:g=k
   ·have hb:(g==k)=true:=beq_iff_eq.mpr h
    simp only [List.lookup,hb,if_neg (fun e:g=f=>hk (h.symm.trans e))]
   ·have hb:(g==k)=false:=beq_eq_false_iff_ne.mpr h
    simp only [List.lookup,hb]
    exact ih
theorem Kc (f:Str)(v:V):∀fs:List (Str×V),f∈(Ba f v fs).map (·.1)∧∀g,g∈fs.map (·.1)→g∈(Ba f v fs).map (·.1)
 |[]=>⟨by simp [Ba],fun g h=>by simp at h⟩
 | (k,x)::r=>by
  obtain ⟨i1,i2⟩:=Kc f v r
  rw [show Ba f v ((k,x)::r)=(if k=f then (k,v)::r else (k,x)::Ba f v r) from rfl]
  by_cases hk:k=f
  ·rw [if_pos hk]
   subst hk
   exact ⟨by simp,fun g h=>by simpa using h⟩
  ·rw [if_neg hk]
   refine ⟨?_,fun g h=>?_⟩
   ·rw [List.map_cons]
    exact List.mem_cons_of_mem _ i1
   ·rw [List.map_cons] at h ⊢
    rcases List.mem_cons.mp h with e|e
    ·exact List.mem_cons.mpr (.inl e)
    ·exact List.mem_cons_of_mem _ (i2 g e)
theorem Bf (f:Str)(v:V):∀fs:List (Str×V),(Ba f v fs).length≤fs.length+1
 |[]=>by simp [Ba]
 |(k,x)::r=>by
  have ih:=Bf f v r
  rw [show Ba f v ((k,x)::r)=(if k=f then (k,v)::r else (k,x)::Ba f v r) from rfl]
  by_cases hk:k=f
  ·rw [if_pos hk,List.length_cons,List.length_cons];omega
  ·rw [if_neg hk,List.length_cons,List.length_cons];omega
theorem F5.some_of {v:V}{o:Option Value}(r:F5 (some v) o):∃u,o=some u∧RelV v u:=by
 cases o with
 |none=>exact (show False from r).elim
 |some u=>exact ⟨u,rfl,r⟩
theorem F5.none_of {o:Option Value}(r:F5 none o):o=none:=by
 cases o with
 |none=>rfl
 |some u=>exact (show False from r).elim
theorem Ym {v:V}{u:Value}(r:RelV v u):PySem.W.handedIn u=true:=by
 cases v with
 |non=>cases (show u=Value.none from r);rfl
 |bl b=>cases (show u=Value.bool b from r);rfl
 |int i=>obtain ⟨t,e⟩:=(show ∃t,u=Value.int i t from r);cases e;rfl
 |str x=>obtain ⟨t,e⟩:=(show ∃t,u=Value.str x t from r);cases e;rfl
 |byt b=>obtain ⟨t,e⟩:=(show ∃t,u=Value.bytes b t from r);cases e;rfl
 |flt b=>obtain ⟨t,e⟩:=(show ∃t,u=Value.float b t from r);cases e;rfl
 |ref a=>cases (show u=Value.ref a from r);rfl
 |ty n=>cases (show u=Value.type n from r);rfl
section
variable {P:Program}{w:World}{H H':Hp}{h h':Heap}{a C dx:Addr}{fs fs':List (Str×V)}
theorem Lb (hok:Hl P w H h)(e:H a=some (.ins C dx fs)):∃mA,Vi h a dx C mA∧(∀f,F5 (fs.lookup f) (mA f))∧PySem.Within mA (fs.map (·.1))∧fs.length≤1000∧H dx=some (.own a):=by
 obtain ⟨d,z,ne,ob,mA,n,r,q⟩:=(show Bb P w H h a (.ins C dx fs) from hok a _ e)
 exact ⟨mA,⟨ob,n,ne⟩,r,q,z,d⟩
end
structure Iq (K:PySem.W.Frag)(C:Addr):Prop where
 pg:PySem.W.plainGet K C Str.empty=true
 hd:PySem.W.hasDictIn K C=true
 po:PySem.W.plainOver K C=true
 sa:PySem.W.findIn K (.ref C) "__setattr__"=some (some (.builtin "object.__setattr__"))
theorem Iq.get {K:PySem.W.Frag}{C:Addr}(c:Iq K C)(f:Str):PySem.W.plainGet K C f=true:=c.pg
def NoAttr (K:PySem.W.Frag)(C:Addr)(f:Str):Prop:=PySem.W.findIn K (.ref C) f=some none
theorem NoAttr.taker {K:PySem.W.Frag}{C:Addr}{f:Str}(n:NoAttr K C f):PySem.W.takerIn K C f=some none:=by
 unfold PySem.W.takerIn
 rw [show PySem.W.findIn K (.ref C) f=some none from n]
 rfl
structure Con (K:PySem.W.Frag)(C:Addr)(f:Str)(v:V)(u:Value):Prop where
 at_:PySem.W.findIn K (.ref C) f=some (some u)
 rel:RelV v u
 get:PySem.W.specialIn K u "__get__"=some none
 cp:PySem.W.copiedNames.contains f=false
structure Aaa (K:PySem.W.Frag)(C:Addr)(m:Str)(f:Addr):Prop where
 at_:PySem.W.findIn K (.ref C) m=some (some (.ref f))
 fn:PySem.W.isFn K (.ref f)=true
 kp:PySem.W.keepIn K (.ref f)=true
section
variable {X:Cx}{pins:List (Addr×Obj)}{σ:St}{H:Hp}{s:Shared}{a C dx:Addr}{fs:List (Str×V)}{f:Str}{v:V}{A:Around}{E:Value→Shared→Prop}
theorem U4 {b:Bool}{Q:Value→Shared→Prop}(I:Ar X pins σ H s)(e:H a=some (.ins C dx fs))(c:Iq X.K C)(n:NoAttr X.K C f)(l:fs.lookup f=some v)
  (h:∀u s',Ar X pins σ H s'→RelV v u→Q u s'):wpAny (model X.prog X.w) A (getAttr (.ref a) f b) Q E s:=by
 obtain ⟨mA,O,r,_,_,_⟩:=Lb I.hok e
 obtain ⟨u,hu,ru⟩:=F5.some_of (v:=v) (o:=mA f) (by rw [←l];exact r f)
 exact Adu I.kIn O (c.get f) c.hd n hu (Ym ru) (h u _ (I.tok _) ru)
theorem Mz {m:Str}{g:Addr}{pl:Sem Bool}{Q:Value×List Value→Shared→Prop}(I:Ar X pins σ H s)(e:H a=some (.ins C dx fs))(c:Iq X.K C)(k:Aaa X.K C m g)(l:fs.lookup m=none)
  (h:Q (.ref g,[.ref a]) s):wpAny (model X.prog X.w) A (getMethod (.ref a) m pl) Q E s:=by
 obtain ⟨mA,O,r,_,_,_⟩:=Lb I.hok e
 have hn:mA m=none:=F5.none_of (by rw [←l];exact r m)
 exact Aaj I.kIn O (c.get m) k.at_ k.fn hn h
theorem U7 {y:V}{u:Value}{Q:Unit→Shared→Prop}(I:Ar X pins σ H s)(e:H a=some (.ins C dx fs))(c:Iq X.K C)(n:NoAttr X.K C f)(hl:fs.length<1000)(ry:RelV y u)
  (h:∀s',Ar X pins σ (upd H a (.ins C dx (Ba f y fs))) s'→Q () s'):wpAny (model X.prog X.w) A (setAttr (.ref a) f u) Q E s:=by
 obtain ⟨mA,O,r,wi,_,ho⟩:=Lb I.hok e
 have hz:(fs.map (·.1)).length≤sizeLine:=by rw [List.length_map,sizeLine_eq];omega
 refine Ad2 I.kIn O c.sa c.po n.taker c.hd wi hz fun h' O' sb=>h _ ?_
 have hd:∃o,h'.get? dx=some o:=let ⟨o,_,_,e',_⟩:=O'.ns;⟨o,e'⟩
 refine I.write (x:=a) (e:=dx) (by rw [e];exact True.intro) (.inr ho) (fun b q hb z=>(sb.2 b hb).trans z) hd ?_
 refine ⟨by rw [Ak O.ne];exact ho,?_,O.ne,O'.obj,_,O'.ns,fun g=>?_,fun g hg=>?_⟩
 ·have:=Bf f y fs;omega
 ·show F5 ((Ba f y fs).lookup g) (if g=f then some u else mA g)
  rw [E1]
  by_cases q:g=f
  ·rw [if_pos q,if_pos q];exact ry
  ·rw [if_neg q,if_neg q];exact r g
 ·by_cases q:g=f
  ·rw [q];exact (Kc f y fs).1
  ·refine (Kc f y fs).2 g (wi g fun z=>hg ?_)
   show (if g=f then some u else mA g)=none
   rw [if_neg q];exact z
theorem Ar.made (I:Ar X pins σ H s):Ar X pins σ (upd (upd H s.heap.objs.size (.own (s.heap.objs.size+1))) (s.heap.objs.size+1) (.ins C s.heap.objs.size []))
  { s with heap:=(s.heap.push PySem.W.emptyDict).push (PySem.W.instObj C s.heap.objs.size) }:=by
 have e1:(s.heap.push PySem.W.emptyDict).get? s.heap.objs.size=some PySem.W.emptyDict:=Heap.get?_push_size s.heap rfl
 have e2:((s.heap.push PySem.W.emptyDict).push (PySem.W.instObj C s.heap.objs.size)).get? (s.heap.objs.size+1)=some (PySem.W.instObj C s.heap.objs.size):=by
  have:=Heap.get?_push_size (s.heap.push PySem.W.emptyDict) (o:=PySem.W.instObj C s.heap.objs.size) rfl
  rwa [Heap.size_push] at this
 have e3:(s.heap.push PySem.W.emptyDict).Ns s.heap.objs.size (fun _=>none):=⟨PySem.W.emptyDict,#[],_,e1,rfl,(fun e he=>absurd he (by simp)),fun _=>rfl⟩
 have I1:=I.laid (a:=s.heap.objs.size) (o:=.own (s.heap.objs.size+1)) (h':=s.heap.push PySem.W.emptyDict) (t':=s.toks) (fun b u q=>Heap.get?_push_of_some _ q) (Nat.le_refl _) ⟨_,e1⟩
 refine I1.laid (a:=s.heap.objs.size+1) (o:=.ins C s.heap.objs.size []) (t':=s.toks) (fun b u q=>Heap.get?_push_of_some _ q) (Nat.le_of_eq (Heap.size_push _ _)) ?_
 have ne:s.heap.objs.size≠s.heap.objs.size+1:=Nat.ne_of_lt (Nat.lt_succ_self _)
 refine ⟨by rw [Ak ne,Ad],Nat.zero_le _,ne,e2,fun _=>none,(Heap.Ns1.of_empty e3).at fun o q=>Heap.get?_push_of_some _ q,fun _=>True.intro,fun y hy=>absurd rfl hy⟩
theorem Aeh {prog:Program}{w:World}{env:Env}{e:Expr}{f:Str}{pos:Pos}{s:Shared}{Q:Value→Shared→Prop}(hb:attributeBase e f env (eval e env)=eval e env)
  (h:wpAny (model prog w) A (eval e env) (fun o s₁=>wpAny (model prog w) A (getAttr o f true) Q E s₁) E s):wpAny (model prog w) A (eval (.Attribute e f pos) env) Q E s:=
 Attribute_any_ h (by rw [arm_eval_Attribute,hb])
end
def Ame (K:PySem.W.Frag)(ta:TE)(f:Str):TE:=fun σ H Q=>ta σ H fun x H1=>∃a C dx fs v,x=.ref a∧H1 a=some (.ins C dx fs)∧Iq K C∧NoAttr K C f∧fs.lookup f=some v∧Q v H1
def Ali (K:PySem.W.Frag)(ta tv:TE)(f:Str):TS:=fun D σ H=>tv σ H fun y H1=>ta σ H1 fun x H2=>∃a C dx fs,x=.ref a∧H2 a=some (.ins C dx fs)∧Iq K C∧NoAttr K C f∧fs.length<1000 ∧
 D.nx σ (upd H2 a (.ins C dx (Ba f y fs)))
section
variable {X:Cx}{o e value:Expr}{f:Str}{pos pos' tpos:Pos}{ta tv:TE}
theorem Ax (he:PE X e ta)(hb:attributeBase e f X.env (eval e X.env)=eval e X.env):PE X (.Attribute e f pos) (Ame X.K ta f):=by
 intro pins s σ H Q I h
 refine Aeh hb (thn (he pins s σ H _ I h) fun u s1 ⟨x,H1,I1,rx,a,C,dx,fs,v,ex,ea,c,n,l,q⟩=>?_)
 subst ex
 obtain rfl:u=Value.ref a:=rx
 exact U4 I1 ea c n l fun u' s2 I2 ru=>⟨v,H1,I2,ru,q⟩
theorem Ec (ha:PE X o ta)(hv:PE X value tv)(hs:swapsWith value (some (.Attribute o f pos')) pos.line X.env=pure false):PS X (.Assign [.Attribute o f pos'] value pos) (Ali X.K ta tv f):=by
 intro pins s σ H D I h
 refine plainObj_wpAny_Assign_Attribute (thn (hv pins s σ H _ I h) fun u s1 ⟨y,H1,I1,ry,q⟩=>thn (ha pins s1 σ H1 _ I1 q) fun ov s2 ⟨x,H2,I2,rx,a,C,dx,fs,ex,ea,c,n,l,q2⟩=>?_) hs
 subst ex
 obtain rfl:ov=Value.ref a:=rx
 exact U7 I2 ea c n l ry fun s3 I3=>⟨σ,_,I3,q2⟩
end
section
variable {X:Cx}{pins:List (Addr×Obj)}{σ:St}{H:Hp}{s:Shared}{A:Around}{E:Value→Shared→Prop}{Q:Value→Shared→Prop}{c:Value}{b:Bool}
inductive Kk (K:PySem.W.Frag)(H:Hp):V→Value→Prop where
 |non:Kk K H .non (.type "NoneType")
 |bl (x:Bool):Kk K H (.bl x) (.type "bool")
 |int (i:Int):Kk K H (.int i) (.type "int")
 |str (x:Str):Kk K H (.str x) (.type "str")
 |flt (x:UInt64):Kk K H (.flt x) (.type "float")
 |lst {a:Addr} {xs:List V} (e:H a=some (.lst xs)):Kk K H (.ref a) (.type "list")
 |frz {a:Addr} {o:Obj} {xs:List V} (e:H a=some (.frz o (.lst xs))):Kk K H (.ref a) (.type "list")
 |tup {a:Addr} {xs:List V} (e:H a=some (.tup xs)):Kk K H (.ref a) (.type "tuple")
 |dK {a:Addr} {kvs:List (B4×V)} (e:H a=some (.dK kvs)):Kk K H (.ref a) (.type "dict")
 |dT {a:Addr} {kvs:List (List B4×V)} (e:H a=some (.dT kvs)):Kk K H (.ref a) (.type "dict")
 | ins {a C dx:Addr} {fs:List (Str×V)} (e:H a=some (.ins C dx fs)) (cl:Iq K C) (ha:PySem.W.findIn K (.ref C) "__class__"=some (some (.builtin "object.__class__")))
   (hn:PySem.W.specialIn K (.builtin "object.__class__") "__get__"=some (some (.builtin "getset_descriptor.__get__"))) (htk:PySem.W.takesIn K (.builtin "object.__class__")=some true)
   (hm:PySem.W.mroIn K C (.type "object")=some true):Kk K H (.ref a) (.ref C)
theorem Fs {x:V}{u t:Value}(I:Ar X pins σ H s)(rx:RelV x u)(ty:Kk X.K H x t)(e:PySem.W.kitOne X.K t c=some b)(h:∀tk,Q (.bool b) { s with toks:=tk }) :
  wpAny (model X.prog X.w) A (call (.builtin "isinstance") [u,c]) Q E s:=by
 cases ty with
 |non=>cases (show u=Value.none from rx);exact PySem.W.kia_one PySem.W.kitx_none I.kIn True.intro e (fun z=>nomatch z) h
 |bl y=>cases (show u=Value.bool y from rx);exact PySem.W.kia_one PySem.W.kitx_bool I.kIn True.intro e (fun z=>nomatch z) h
 |int i=>obtain ⟨t,q⟩:=(show ∃t,u=Value.int i t from rx);cases q;exact PySem.W.kia_one PySem.W.kitx_int I.kIn True.intro e (fun z=>nomatch z) h
 |str y=>obtain ⟨t,q⟩:=(show ∃t,u=Value.str y t from rx);cases q;exact PySem.W.kia_one PySem.W.kitx_str I.kIn True.intro e (fun z=>nomatch z) h
 |flt y=>obtain ⟨t,q⟩:=(show ∃t,u=Value.float y t from rx);cases q;exact PySem.W.kia_one PySem.W.kitx_float I.kIn True.intro e (fun z=>nomatch z) h
 |@lst a xs ea=>
  cases (show u=Value.ref a from rx)
  obtain ⟨_,_,n,_,h1⟩:=(show Bb X.prog X.w H s.heap a (.lst xs) from I.hok a _ ea)
  exact PySem.W.kia_one PySem.W.kitx_list I.kIn ⟨_,h1,rfl⟩ e (fun z=>nomatch z) h
 |@frz a ob xs ea=>
  cases (show u=Value.ref a from rx)
  obtain ⟨_,_,_,n,_,h1⟩:=(show Bb X.prog X.w H s.heap a (.frz ob (.lst xs)) from I.hok a _ ea)
  exact PySem.W.kia_one PySem.W.kitx_list I.kIn ⟨_,h1,rfl⟩ e (fun z=>nomatch z) h
 |@tup a xs ea=>
  cases (show u=Value.ref a from rx)
  obtain ⟨_,_,_,p⟩:=(show Bb X.prog X.w H s.heap a (.tup xs) from I.hok a _ ea)
  obtain ⟨o,h1,h2,_⟩:=p
  exact PySem.W.kia_one PySem.W.kitx_tuple I.kIn ⟨o,h1,h2⟩ e (fun z=>nomatch z) h
 |@dK a kvs ea=>
  cases (show u=Value.ref a from rx)
  obtain ⟨_,_,vs,_,p⟩:=(show Bb X.prog X.w H s.heap a (.dK kvs) from I.hok a _ ea)
  obtain ⟨o,es,ep,h1,h2,_⟩:=p
  exact PySem.W.kia_one PySem.W.kitx_dict I.kIn ⟨o,h1,h2.1⟩ e (fun z=>nomatch z) h
 |@dT a kvs ea=>
  cases (show u=Value.ref a from rx)
  obtain ⟨_,_,xs,_,o,es,ep,h1,h2,_⟩:=(show Bb X.prog X.w H s.heap a (.dT kvs) from I.hok a _ ea)
  exact PySem.W.kia_one PySem.W.kitx_dict I.kIn ⟨o,h1,h2.1⟩ e (fun z=>nomatch z) h
 |@ins a C dx fs ea cl ha hn htk hm=>
  cases (show u=Value.ref a from rx)
  obtain ⟨mA,O,_⟩:=Lb I.hok ea
  obtain ⟨od,J,_⟩:=O.look
  exact PySem.W.kia_one (PySem.W.kitx_own (cl.get _) cl.hd ha hn htk hm) I.kIn J e (fun z=>nomatch z) h
end
end L2
namespace L2
open PySem PySem.Spec PyProof.Rows
structure B7 (k:Nat)(A:Around):Prop where
 hd:A.handled=none
 dp:A.depth+3*k+5<recursionLimit
 un:A.units+16*k+200<cLine
theorem B7.mono {j k:Nat}{A:Around}(r:B7 k A)(h:j≤k):B7 j A:=⟨r.hd,by have:=r.dp;omega,by have:=r.un;omega⟩
theorem B7.deeper {k:Nat}{A:Around}(r:B7 (k+1) A)(env:Env):B7 k (A.deeper env):=
 ⟨r.hd,by have:=r.dp;show A.depth+1+3*k+5<_;omega,by have:=r.un;show A.units+3+16*k+200<_;omega⟩
theorem B7.in1 {k:Nat}{A:Around}(r:B7 (k+1) A):B7 k A.in1:=
 ⟨r.hd,by have:=r.dp;show A.depth+3*k+5<_;omega,by have:=r.un;show A.units+1+16*k+200<_;omega⟩
theorem U3 {A:Around}{C:Addr}{us:List Value}{kw:List (Str×Value)}:(A.under (.builtin "type.__call__" ⟨.ref C::us,kw⟩)).depth=A.depth+1:=by
 first|rfl|simp [Around.under,Code.weight,Code.isCreation,Code.isGuard,Code.isCaller,Code.frames,Code.isFrame,guardIds]
theorem Vt {A:Around}{C:Addr}{us:List Value}{kw:List (Str×Value)}:(A.under (.builtin "type.__call__" ⟨.ref C::us,kw⟩)).units=A.units+1:=by
 first|rfl|simp [Around.under,Code.cUnits,Code.frames,Code.isFrame]
theorem B7.make {k:Nat}{A:Around}(r:B7 (k+1) A)(C:Addr)(us:List Value)(kw:List (Str×Value)):B7 k (A.under (.builtin "type.__call__" ⟨.ref C::us,kw⟩)):=
 ⟨r.hd,by have:=r.dp;rw [U3];omega,by have:=r.un;rw [Vt];omega⟩
theorem B7.depth {k:Nat}{A:Around}(r:B7 k A):A.depth<recursionLimit:=by have:=r.dp;omega
theorem B7.units {k:Nat}{A:Around}(r:B7 k A):A.units+64<cLine:=by have:=r.un;omega
def Aef:TA:=fun _ H Q=>Q [] H
def Zk (ta:TE)(tr:TA):TA:=fun σ H Q=>ta σ H fun x H1=>tr σ H1 fun xs H2=>Q (x::xs) H2
section
variable {X:Cx}{e:Expr}{es:List Expr}{te:TE}{t:TA}{pos:Pos}
theorem Ac:PA X [] Aef:=fun _ _ _ _ H Q I h=>Calls.spliced_nil ⟨[],H,I,.nil,h⟩
theorem Aa (ha:PE X e te)(hr:PA X es t)(hs:starEach (e::es) X.env=(false,eval e X.env)::starEach es X.env:=by rfl):PA X (e::es) (Zk te t):=by
 intro pos pins s σ H Q I h
 rw [hs]
 show wpAny _ _ (spliced ((false,eval e X.env)::backTo pos (starEach es X.env))) _ _ s
 refine Calls.spliced_cons (thn (ha pins s σ H _ I h) fun u s1 ⟨x,H1,I1,r1,q1⟩=>?_)
 exact thn (hr pos pins s1 σ H1 _ I1 q1) fun us s2 ⟨xs,H2,I2,r2,q2⟩=>⟨x::xs,H2,I2,.cons r1 r2,q2⟩
def Ama (t:TA):TE:=fun σ H Q=>t σ H fun xs H1=>xs.length≤sizeLine∧∀p,H1 p=none→Q (.ref p) (upd H1 p (.lst xs))
theorem Do (h:PA X es t):PE X (.List es pos) (Ama t):=by
 intro pins s σ H Q I hq
 refine wpAny_List_spliced (thn (h pos pins s σ H _ I hq) fun us s1 ⟨xs,H1,I1,r,z,q⟩=>⟨by rw [←r.length];exact z,?_⟩)
 have hf:H1 s1.heap.objs.size=none:=I1.hok.fresh (Nat.le_refl _)
 refine ⟨.ref s1.heap.objs.size,upd H1 s1.heap.objs.size (.lst xs),I1.laid (t':=s1.toks) (fun b u e=>Heap.get?_push_of_some _ e) (Nat.le_refl _) ?_,rfl,q _ hf⟩
 exact ⟨z,us,0,r,Heap.get?_push_size _ rfl⟩
end
abbrev Sp:=List V→Hp→VK→XK→Prop
abbrev Y3:=List Env→Hp→Shared→XK→Value→Shared→Prop
structure Vc (P:Program)(w:World)(K:PySem.W.Frag)(mg:Str→Option Value)(base:Heap)(A:Around)(outer:List Env)(s:Shared)(H:Hp):Prop where
 frames:A.frames=some outer
 mod:Mod K mg base
 bs:∀b o,base.get? b=some o→s.heap.get? b=some o∧H b=none
 bsz:base.objs.size≤s.heap.objs.size
 funs:s.heap.FunFrames base outer
 frf:∀b∈Kr outer,H b=none
 hok:Hl P w H s.heap
 bare:AllBare s.gens
def CE (outer:List Env)(P:Program)(w:World)(H:Hp)(s:Shared)(Q:VK)(u:Value)(s':Shared):Prop:=
 ∃v H',s'.os=s.os∧AllBare s'.gens∧Un (Kr outer) [] H H' s.heap s'.heap∧Hl P w H' s'.heap∧RelV v u∧Q v H'
def CR (CX:Y3)(outer:List Env)(P:Program)(w:World)(H:Hp)(s:Shared)(Q:VK)(E:XK)(r:Result)(s':Shared):Prop:=
 match r with
 |.ok (.ret u)=>CE outer P w H s Q u s'
 |.ok _=>False
 |.error e=>CX outer H s E e s'
structure He (P:Program)(w:World)(K:PySem.W.Frag)(mg:Str→Option Value)(base:Heap)(CX:Y3)(k:Nat)(f:Addr)(fd:FuncData)(ps:List Str)(sp:Sp):Prop where
 len:∀vs H Q E,sp vs H Q E→vs.length=ps.length
 run:∀(A:Around) (outer:List Env) (s:Shared) (H:Hp) (args:Args) (us:List Value) (vs:List V) (Q:VK) (E:XK),B7 k A→Vc P w K mg base A outer s H→BindsTo s fd args (ps.zip us)→A4 vs us→sp vs H Q E →
  codeAny (model P w) A (.call (.ref f) args) (CR CX outer P w H s Q E) s
theorem He.mono {P:Program}{w:World}{K:PySem.W.Frag}{mg:Str→Option Value}{base:Heap}{CX:Y3}{j k:Nat}{f:Addr}{fd:FuncData}{ps:List Str}{sp:Sp}(F:He P w K mg base CX j f fd ps sp)(h:j≤k) :
  He P w K mg base CX k f fd ps sp:=⟨F.len,fun A outer s H args us vs Q E hr=>F.run A outer s H args us vs Q E (hr.mono h)⟩
theorem Vc.make {P:Program}{w:World}{K:PySem.W.Frag}{mg:Str→Option Value}{base:Heap}{A:Around}{outer:List Env}{s:Shared}{H:Hp}(e:Vc P w K mg base A outer s H)(C:Addr)(us:List Value)(kw:List (Str×Value)) :
  Vc P w K mg base (A.under (.builtin "type.__call__" ⟨.ref C::us,kw⟩)) outer s H:=⟨by first|exact e.frames|(simpa [Around.under,Code.envs,Code.isFrame,pushEnvs] using e.frames),e.mod,e.bs,e.bsz,e.funs,e.frf,e.hok,e.bare⟩
section
variable {X:Cx}{pins:List (Addr×Obj)}{σ:St}{H:Hp}{s s':Shared}
theorem Ar.env0 (I:Ar X pins σ H s):Vc X.prog X.w X.K X.mg X.base X.A X.stack s H:=
 ⟨I.ok.frames,I.ok.mod,I.bs,Nat.le_trans I.ok.bsz I.sz,I.stack,I.stkFree,I.hok,I.bare⟩
theorem Ar.after {Q:VK}{u:Value}(I:Ar X pins σ H s)(h:CE X.stack X.prog X.w H s Q u s'):EP X pins σ Q u s':=by
 obtain ⟨v,H',os,bare,un,hok,r,q⟩:=h
 obtain ⟨hh,g,d,t,os'⟩:=s'
 obtain rfl:os'=s.os:=os
 exact ⟨v,H',I.call (h':=hh) (g':=g) (d':=d) (t':=t) (ch:=[]) un hok bare (fun b z=>absurd z (by simp)),r,q⟩
end
def Wa (sp:Sp)(dvs:List V)(E:XK)(t:TA):TE:=fun σ H Q=>t σ H fun vs H1=>sp (vs++dvs) H1 Q E
def Z4 (C:Addr)(sp:Sp)(dvs:List V)(E:XK)(t:TA):TE:=fun σ H Q=>t σ H fun vs H1=>∀x dx,H1 x=none→H1 dx=none→dx≠x →
 sp (.ref x::(vs++dvs)) (upd (upd H1 dx (.own x)) x (.ins C dx [])) (fun v H2=>v=.non∧Q (.ref x) H2) E
def Gh (K:PySem.W.Frag)(fd:FuncData)(ps:List Str)(ds:List Value):Prop:=
 ∀(s:Shared) (us:List Value),K.In s.heap→(us++ds).length=ps.length→BindsTo s fd ⟨us,[]⟩ (ps.zip (us++ds))
theorem Gh.all {K:PySem.W.Frag}{fd:FuncData}{ps:List Str}(h:∀us:List Value,us.length=ps.length→bindArgs fd ⟨us,[]⟩=pure (ps.zip us)):Gh K fd ps []:=fun s us _ hl=>by
 rw [List.append_nil] at hl ⊢
 exact .of_eq (h us hl)
def F2 (CX:Y3)(X:Cx)(E:XK):Prop:=∀(pins:List (Addr×Obj)) (σ:St) (H:Hp) (s:Shared) (e:Value) (s':Shared),Ar X pins σ H s→CX X.stack H s E e s'→X.xe e s'
section
variable {X:Cx}{CX:Y3}{k:Nat}{f C:Addr}{fd:FuncData}{ps:List Str}{sp:Sp}{dvs:List V}{ds:List Value}{E:XK}{x m:Str}{p pos apos:Pos}{e o:Expr}{es:List Expr}{ta:TE}{t:TA}
theorem Qw {pins:List (Addr×Obj)}{σ:St}{H:Hp}{s:Shared}{Q:VK}{us:List Value}{vs:List V}(F:He X.prog X.w X.K X.mg X.base CX k f fd ps sp)(hr:B7 k X.A)(hb:Gh X.K fd ps ds)(hd:A4 dvs ds)(hx:F2 CX X E)
  (I:Ar X pins σ H s) (r:A4 vs us) (h:sp (vs++dvs) H Q E):wpAny (model X.prog X.w) X.A (call (.ref f) us) (EP X pins σ Q) X.xe s:=by
 have r2:A4 (vs++dvs) (us++ds):=r.append hd
 have hl:(us++ds).length=ps.length:=by rw [←r2.length];exact F.len _ _ _ _ h
 refine wpAny_call (codeAny_mono (F.run X.A X.stack s H ⟨us,[]⟩ (us++ds) (vs++dvs) Q E hr I.env0 (hb s us I.kIn hl) r2 h) fun r s' hq=>?_)
 cases r with
 |error e=>exact hx pins σ H s e s' I hq
 |ok fl=>
  cases fl with
  |ret u=>exact I.after hq
  |next=>exact False.elim hq
  |brk=>exact False.elim hq
  |cont=>exact False.elim hq
theorem Ads (F:He X.prog X.w X.K X.mg X.base CX k f fd ps sp)(hr:B7 k X.A)(hg:Gl X x)(hm:X.mg x=some (.ref f))(hk:PySem.W.keepIn X.K (.ref f)=true)(hb:Gh X.K fd ps ds)(hd:A4 dvs ds)(hx:F2 CX X E)
  (ha:PA X (e::es) t) (hdb:(x==("__debug__":Str))=false:=by decide) (he:starEach (e::es) X.env=(false,eval e X.env)::starEach es X.env:=by rfl) (hpl:(backTo pos (starEach es X.env)).any (·.1)=false:=by rfl) :
  PE X (.Call (.Name x p) (e::es) [] pos) (Wa sp dvs E t):=by
 intro pins s σ H Q I h
 refine wpAny_Call_Name_kw (Jr I hg hm ?_ hdb)
 refine PySem.W.callWith_K (h₀:=X.base) I.ok.mod.kin hk (thn (ha pos pins s σ H _ I h) fun us s1 ⟨vs,H1,I1,r,q⟩=>⟨I1.kIn,?_⟩) he hpl
 exact Qw F hr hb hd hx I1 r q
structure Mk (K:PySem.W.Frag)(C f:Addr):Prop where
 makes:PySem.W.makesIn K C=true
 init:PySem.W.findIn K (.ref C) "__init__"=some (some (.ref f))
 fn:PySem.W.isFn K (.ref f)=true
 kp:PySem.W.keepIn K (.ref C)=true
theorem Zy {pins:List (Addr×Obj)}{σ:St}{H:Hp}{s:Shared}{Q:VK}{us:List Value}{vs:List V}(M:Mk X.K C f)(F:He X.prog X.w X.K X.mg X.base CX k f fd ps sp)(hr:B7 (k+1) X.A)(hb:Gh X.K fd ps ds)(hd:A4 dvs ds)
  (hx:F2 CX X E) (I:Ar X pins σ H s) (r:A4 vs us)
  (h:∀x dx,H x=none→H dx=none→dx≠x→sp (.ref x::(vs++dvs)) (upd (upd H dx (.own x)) x (.ins C dx [])) (fun v H2=>v=.non∧Q (.ref x) H2) E) :
  wpAny (model X.prog X.w) X.A (call (.ref C) us) (EP X pins σ Q) X.xe s:=by
 have hq:=h (s.heap.objs.size+1) s.heap.objs.size (I.hok.fresh (Nat.le_succ _)) (I.hok.fresh (Nat.le_refl _)) (Nat.ne_of_lt (Nat.lt_succ_self _))
 have I2:=Ar.made (C:=C) I
 have r2:A4 (V.ref (s.heap.objs.size+1)::(vs++dvs)) (Value.ref (s.heap.objs.size+1)::(us++ds)):=.cons rfl (r.append hd)
 have hl:(Value.ref (s.heap.objs.size+1)::us++ds).length=ps.length:=by
  have e:=r2.length
  rw [F.len _ _ _ _ hq] at e
  exact e.symm
 refine wpAny_call (Abc (f:=f) I.kIn M.makes M.init (beq_iff_eq.mp M.fn) (codeAny_mono (F.run _ X.stack _ _ ⟨Value.ref (s.heap.objs.size+1)::us,[]⟩ (Value.ref (s.heap.objs.size+1)::(us++ds)) _ _ E (hr.make C us [])
  (I2.env0.make C us []) (hb _ (Value.ref (s.heap.objs.size+1)::us) I2.kIn hl) r2 hq) fun r s' hq'=>?_))
 cases r with
 |error e=>exact hx pins σ _ _ e s' I2 hq'
 | ok fl=>
  cases fl with
  |ret u=>
   obtain ⟨v,H',I3,rv,ev,q3⟩:=I2.after hq'
   subst ev
   exact ⟨rv,⟨V.ref (s.heap.objs.size+1),H',I3,rfl,q3⟩⟩
  |next=>exact False.elim hq'
  |brk=>exact False.elim hq'
  |cont=>exact False.elim hq'
theorem Ad6 (M:Mk X.K C f)(F:He X.prog X.w X.K X.mg X.base CX k f fd ps sp)(hr:B7 (k+1) X.A)(hg:Gl X x)(hm:X.mg x=some (.ref C))(hb:Gh X.K fd ps ds)(hd:A4 dvs ds)(hx:F2 CX X E)
  (ha:PA X (e::es) t) (hdb:(x==("__debug__":Str))=false:=by decide) (he:starEach (e::es) X.env=(false,eval e X.env)::starEach es X.env:=by rfl) (hpl:(backTo pos (starEach es X.env)).any (·.1)=false:=by rfl) :
  PE X (.Call (.Name x p) (e::es) [] pos) (Z4 C sp dvs E t):=by
 intro pins s σ H Q I h
 refine wpAny_Call_Name_kw (Jr I hg hm ?_ hdb)
 refine PySem.W.callWith_K (h₀:=X.base) I.ok.mod.kin M.kp (thn (ha pos pins s σ H _ I h) fun us s1 ⟨vs,H1,I1,r,q⟩=>⟨I1.kIn,?_⟩) he hpl
 exact Zy M F hr hb hd hx I1 r q
end
section
variable {X:Cx}{CX:Y3}{k:Nat}{f C:Addr}{fd:FuncData}{ps ks:List Str}{sp:Sp}{E:XK}{x m:Str}{p pos apos kpos:Pos}{e o:Expr}{es:List Expr}{kws:List Keyword}{te ta:TE}{t tk:TA}{nm:Option Str}
structure Al6 (K:PySem.W.Frag)(fd:FuncData)(ps ks:List Str)(g:List Value→List Value→List Value)(gV:List V→List V→List V):Prop where
 to:∀(s:Shared) (us ws:List Value),K.In s.heap→(g us ws).length=ps.length→BindsTo s fd ⟨us,ks.zip ws⟩ (ps.zip (g us ws))
 rel:∀{vs:List V} {us:List Value} {zs:List V} {ws:List Value},A4 vs us→A4 zs ws→A4 (gV vs zs) (g us ws)
variable {g:List Value→List Value→List Value}{gV:List V→List V→List V}
end
structure Al (N P:List Str)(sc:Scope):Prop where
 kind:sc.kind=.function
 co:sc.isCoroutine=false
 gen:sc.isGenerator=false
 nd:N.Nodup
 pre:N.take P.length=P
 par:∀x∈P,sc.names.lookup x=some .local∨sc.names.lookup x=some .cell
 nofree:∀y∈sc.names,y.2≠.free
theorem Pi {kindOf:Str→Option NameKind}{x:Str}:∀{binds:List (Str×Value)} {m:Str→Option Value},(∀v,(x,v)∉binds)→bindL kindOf binds m x=m x
 |[],_,_=>rfl
 | (n,v)::r,m,h=>by
  unfold bindL
  rw [Pi fun w hw=>h w (List.mem_cons_of_mem _ hw)]
  split
  ·have:x≠n:=by rintro rfl;exact h v List.mem_cons_self
   simp [this]
  ·rfl
theorem Pn {kindOf:Str→Option NameKind}{x:Str}:∀{binds:List (Str×Value)} {m:Str→Option Value},(∀v,(x,v)∉binds)→bindC kindOf binds m x=m x
 |[],_,_=>rfl
 | (n,v)::r,m,h=>by
  unfold bindC
  rw [Pn fun w hw=>h w (List.mem_cons_of_mem _ hw)]
  split
  ·rfl
  ·have:x≠n:=by rintro rfl;exact h v List.mem_cons_self
   simp [this]
theorem Om {kindOf:Str→Option NameKind}{x:Str}{v:Value}:∀{P:List Str} {vs:List Value} {i:Nat} {m:Str→Option Value},P.Nodup→P[i]? =some x→vs[i]? =some v→kindOf x=some .local →
  bindL kindOf (P.zip vs) m x=some v
 |[],_,_,_,_,h,_,_=>by simp at h
 |_::_,[],_,_,_,_,h,_=>by simp at h
 |p::P,w::vs,0,m,nd,h1,h2,hk=>by
  simp at h1 h2;subst h1;subst h2
  show bindL kindOf ((p,w)::P.zip vs) m p=_
  unfold bindL
  rw [Pi fun v hv=>(List.nodup_cons.mp nd).1 (List.of_mem_zip hv).1,if_pos hk]
  simp
 |p::P,w::vs,i+1,m,nd,h1,h2,hk=>by
  show bindL kindOf ((p,w)::P.zip vs) m x=_
  unfold bindL
  exact Om (i:=i) (List.nodup_cons.mp nd).2 (by simpa using h1) (by simpa using h2) hk
theorem O9 {kindOf:Str→Option NameKind}{x:Str}{v:Value}:∀{P:List Str} {vs:List Value} {i:Nat} {m:Str→Option Value},P.Nodup→P[i]? =some x→vs[i]? =some v→kindOf x≠some .local →
  bindC kindOf (P.zip vs) m x=some v
 |[],_,_,_,_,h,_,_=>by simp at h
 |_::_,[],_,_,_,_,h,_=>by simp at h
 |p::P,w::vs,0,m,nd,h1,h2,hk=>by
  simp at h1 h2;subst h1;subst h2
  show bindC kindOf ((p,w)::P.zip vs) m p=_
  unfold bindC
  rw [Pn fun v hv=>(List.nodup_cons.mp nd).1 (List.of_mem_zip hv).1,if_neg hk]
  simp
 |p::P,w::vs,i+1,m,nd,h1,h2,hk=>by
  show bindC kindOf ((p,w)::P.zip vs) m x=_
  unfold bindC
  exact O9 (i:=i) (List.nodup_cons.mp nd).2 (by simpa using h1) (by simpa using h2) hk
def Gg (N:List Str)(vs:List V):St:=vs.map some++List.replicate (N.length-vs.length) none
def Ht (CX:Y3)(P:Program)(w:World)(K:PySem.W.Frag)(mg:Str→Option Value)(base:Heap)(N:List Str)(qual:Str)(scope:Scope)(f:Addr)(cd:Value)(A:Around)(outer:List Env)(s:Shared)(H:Hp)(E:XK):Cx where
 prog:=P
 w:=w
 K:=K
 mg:=mg
 base:=base
 A:=A.deeper (envOfC qual scope s.heap.objs.size f cd)
 N:=N
 s₀:=s
 H₀:=H
 env:=envOfC qual scope s.heap.objs.size f cd
 outer:=outer
 stack:=envOfC qual scope s.heap.objs.size f cd::outer
 ex:=[]
 calm:=true
 fn:=fun _=>true
 pn:=[]
 xe:=fun e s'=>wpAny (model P w) (A.deeper (envOfC qual scope s.heap.objs.size f cd)) (leaving (envOfC qual scope s.heap.objs.size f cd) e) (fun _ s''=>CX outer H s E e s'') (fun e' s''=>CX outer H s E e' s'') s'
theorem So {sc:Scope}{n:Nat}{x:Str}(h:sc.names.lookup x=some .cell):∃c,(cellsFrom n sc.names []).lookup x=some c:=by
 have q:=PySem.W.cellsFrom_some sc.names n [] (.inl h)
 exact Option.isSome_iff_exists.mp q
theorem Y1 {CX:Y3}{P:Program}{w:World}{K:PySem.W.Frag}{mg:Str→Option Value}{base:Heap}{N ps:List Str}{qual:Str}{scope:Scope}{f:Addr}{cd:Value}{A:Around}{outer:List Env}{s s1:Shared}{H:Hp}{E:XK}{us:List Value}{vs:List V}
  (S:Al N ps scope) (hd:A.handled=none) (e0:Vc P w K mg base A outer s H) (hl:vs.length=ps.length) (r:A4 vs us)
  (x:InCallC s s.heap.objs.size (bindL (envOfC qual scope s.heap.objs.size f cd).kindOf (ps.zip us) fun _=>none) (cellsFrom (s.heap.objs.size+1) scope.names []) (bindC (envOfC qual scope s.heap.objs.size f cd).kindOf (ps.zip us) fun _=>none) s1) :
  Ar (Ht CX P w K mg base N qual scope f cd A outer s H E) [] (Gg N vs) H s1:=by
 have hpl:ps.length≤N.length:=by have:=congrArg List.length S.pre;rw [List.length_take] at this;omega
 obtain ⟨h1,tk,rfl,hk⟩:=x.done
 have noA:∀b:Addr,b∉(Ht CX P w K mg base N qual scope f cd A outer s H E).ex:=fun b z=>absurd (show b∈([]:List Addr) from z) (by simp)
 refine ⟨⟨e0.mod,S.kind,rfl,rfl,Nat.le_refl _,fun y z c h1 h2=>?_,fun y hy=>?_,fun y c _ h=>?_,fun _=>hd,Around.frames_deeper e0.frames,.inr ⟨rfl,rfl⟩,fun b z=>absurd z (noA b),e0.bs,e0.bsz,fun b _ _=>noA b,fun b z=>absurd z (noA b),e0.funs,e0.frf⟩,
  rfl,e0.bare,Un.kept hk,⟨_,x.toInCall.ns,fun i y v h1 h2 h3=>?_⟩,fun y c h=>⟨_,x.cell y c h⟩,e0.hok.fresh (Nat.le_refl _),fun y c h=>?_,fun p hp=>absurd (show p∈([]:List (Addr×Obj)) from hp) (by simp),e0.hok.kept hk,?_⟩
 ·exact name_of_addr x.apart (PySem.mem_of_lookup h1) (PySem.mem_of_lookup h2)
 ·have hy:scope.names.lookup y=some .cell∨scope.names.lookup y=some .free:=hy
  rcases hy with hy|hy
  ·exact So hy
  ·exact absurd rfl (S.nofree _ (PySem.mem_of_lookup hy))
 ·exact Nat.le_of_lt (x.above y c (PySem.mem_of_lookup h))
 ·have hi:i<vs.length:=by
   unfold Gg at h2
   by_cases hi:i<vs.length
   ·exact hi
   ·rw [List.getElem?_append_right (by simpa using hi)] at h2
    rw [List.getElem?_replicate] at h2
    split at h2<;>cases h2
  have ha:vs[i]? =some v:=by
   unfold Gg at h2
   rw [List.getElem?_append_left (by simpa using hi),List.getElem?_map] at h2
   cases e:vs[i]? with
   |none=>rw [e] at h2;cases h2
   |some a=>rw [e] at h2;cases h2;rfl
  obtain ⟨u,hu,rv⟩:=r.get ha
  have hp:ps[i]? =some y:=by
   rw [←S.pre,List.getElem?_take_of_lt (by omega)];exact h1
  have ndP:ps.Nodup:=by rw [←S.pre];exact S.nd.sublist (List.take_sublist _ _)
  refine ⟨u,rv,?_⟩
  rcases S.par y (List.mem_of_getElem? hp) with k|k
  ·exact .inl ⟨k,Om ndP hp hu k⟩
  ·obtain ⟨c,e⟩:=So (n:=s.heap.objs.size+1) k
   refine .inr ⟨.inl k,c,e,?_⟩
   have q:=x.cell y c e
   rw [O9 ndP hp hu (by show scope.names.lookup y≠_;rw [k];decide)] at q
   exact q
 ·exact e0.hok.fresh (Nat.le_of_lt (x.above y c (PySem.mem_of_lookup h)))
 ·unfold Gg
  show _=N.length
  rw [List.length_append,List.length_map,List.length_replicate]
  omega
theorem Acd {CX:Y3}{P:Program}{w:World}{K:PySem.W.Frag}{mg:Str→Option Value}{base:Heap}{k:Nat}{f:Addr}{name qual:Str}{params:Arguments}{body:List Stmt}{scope:Scope}{dV kV doc pm cdv ct oc:Value}{an od:Option Addr}
  {osl:Array (Option Value)} {N ps:List Str} {sp:Sp} (lk:K.lookup f=some ⟨oc,od,.func (PySem.W.fnOf name qual params body scope dV kV doc pm an cdv ct),osl⟩) (hcd:PySem.W.codeIn K cdv qual=true) (S:Al N ps scope)
  (len:∀vs H Q E,sp vs H Q E→vs.length=ps.length)
  (hbody:∀(A:Around) (outer:List Env) (s:Shared) (H:Hp) (vs:List V) (Q:VK) (E:XK),B7 k (A.deeper (envOfC qual scope s.heap.objs.size f cdv))→sp vs H Q E →
   ∃t,Mg (Ht CX P w K mg base N qual scope f cdv A outer s H E) body t∧t { nx:=fun _ H'=>Q .non H',rt:=Q } (Gg N vs) H) :
  He P w K mg base CX (k+1) f (PySem.W.fnOf name qual params body scope dV kV doc pm an cdv ct) ps sp:=by
 refine ⟨len,fun A outer s H args us vs Q E hr e0 hb r hsp=>?_⟩
 have hl:=len _ _ _ _ hsp
 have KX:K.In s.heap:=e0.mod.kin.keeps fun b o e=>(e0.bs b o e).1
 have lim:s.heap.NoLimit:=e0.mod.nolimit.keeps fun b o e=>(e0.bs b o e).1
 have hkind:∀y∈ps.zip us,scope.names.lookup y.1=some .local∨(scope.names.lookup y.1=some .cell∧((cellsFrom (s.heap.objs.size+1) scope.names []).lookup y.1).isSome=true):=fun ⟨n,v⟩ hy=>by
  rcases S.par n (List.of_mem_zip hy).1 with q|q
  ·exact .inl q
  ·exact .inr ⟨q,PySem.W.cellsFrom_some _ _ _ (.inl q)⟩
 refine codeAny_call_function hr.depth (KX _ _ lk) rfl S.co S.gen rfl (PySem.W.codeRec_of KX hcd) (hb _ _ _ _ ?_)
 refine wpAny_newFunctionEnv_cells S.kind hkind fun env he s1 x=>?_
 subst he
 refine ⟨lim.keeps x.toInCall.keep,codeAny_func ?_⟩
 obtain ⟨t,ht,hq⟩:=hbody A outer s H vs Q E (hr.deeper _) hsp
 have I:Ar (Ht CX P w K mg base N qual scope f cdv A outer s H E) [] (Gg N vs) H s1:=Y1 S hr.hd e0 hl r x
 refine wpAny_mono (ht [] s1 (Gg N vs) H _ I hq) (fun fl s' hs=>?_) fun e s' hs=>hs
 have fin:∀{σ':St} {H':Hp} {v:V} {u:Value},Ar (Ht CX P w K mg base N qual scope f cdv A outer s H E) [] σ' H' s'→RelV v u→Q v H'→CE outer P w H s Q u s' :=
  fun {σ' H' v u} J rv q=>⟨v,H',J.os,J.bare,J.base,J.hok,rv,q⟩
 cases fl with
 |ret u=>
  obtain ⟨v,σ',H',J,rv,q⟩:=hs
  exact fin J rv q
 |next=>
  obtain ⟨σ',H',J,q⟩:=hs
  exact fin (v:=V.non) (u:=Value.none) J rfl q
 |brk=>
  obtain ⟨_,_,_,q⟩:=hs
  exact False.elim q
 |cont=>
  obtain ⟨_,_,_,q⟩:=hs
  exact False.elim q
end L2
namespace L2
open PySem PySem.Spec PyProof.Rows
section
variable {X:Cx}{x:Str}{p pos:Pos}{e:Expr}{es:List Expr}{t:TA}{id T:String}{r:List V→Hp→VK→Prop}
def tCB (r:List V→Hp→VK→Prop)(t:TA):TE:=fun σ H Q=>t σ H fun vs H1=>r vs H1 Q
theorem Aw (hc:Ed X (.builtin id) r)(hg:Gl X x)(hm:X.mg x=none)(hv:bootBuiltins x=some (.builtin id))(ha:PA X (e::es) t)(hn:x≠"__name__":=by decide)(hdb:(x==("__debug__":Str))=false:=by decide)
  (he:starEach (e::es) X.env=(false,eval e X.env)::starEach es X.env:=by rfl) (hpl:(backTo pos (starEach es X.env)).any (·.1)=false:=by rfl):PE X (.Call (.Name x p) (e::es) [] pos) (tCB r t):=by
 intro pins s σ H Q I h
 refine wpAny_Call_Name_kw (E6 I hg hm hv ?_ hn hdb)
 exact PyProof.Rows.callWith_builtin1 (thn (ha pos pins s σ H _ I h) fun us s1 ⟨vs,H1,I1,r1,q1⟩=>hc pins s1 σ H1 vs us Q I1 r1 q1) he hpl
theorem Pa (hc:Ed X (.type T) r)(hg:Gl X x)(hm:X.mg x=none)(hv:bootBuiltins x=some (.type T))(ha:PA X (e::es) t)(hn:x≠"__name__":=by decide)(hdb:(x==("__debug__":Str))=false:=by decide)
  (he:starEach (e::es) X.env=(false,eval e X.env)::starEach es X.env:=by rfl) (hpl:(backTo pos (starEach es X.env)).any (·.1)=false:=by rfl):PE X (.Call (.Name x p) (e::es) [] pos) (tCB r t):=by
 intro pins s σ H Q I h
 refine wpAny_Call_Name_kw (E6 I hg hm hv ?_ hn hdb)
 exact PyProof.Rows.callWith_type1 (thn (ha pos pins s σ H _ I h) fun us s1 ⟨vs,H1,I1,r1,q1⟩=>hc pins s1 σ H1 vs us Q I1 r1 q1) he hpl
end
end L2
namespace HT
open PySem PyProof.Rows
section
open PySem.SeqAt
open PySem.AutoSeq1 (wpAny_loadPart')
open PySem.MeetsSeq PySem.MeetsSeq2 PySem.MeetsSeq3
end
section
variable {prog:Program}{w:World}{A:Around}{E:Value→Shared→Prop}{s:Shared}
def sIx (n d:Nat):Option Int→Nat
 |none=>d
 |some v=>if v<0 then (v+(n:Int)).toNat else min v.toNat n
theorem sIx_none (n d:Nat):sIx n d none=d:=rfl
theorem sIx_nat (n d k:Nat):sIx n d (some (k:Int))=min k n:=by
 show (if (k:Int)<0 then ((k:Int)+(n:Int)).toNat else min (k:Int).toNat n)=min k n
 rw [if_neg (by omega),Int.toNat_natCast]
theorem sIx_le (n d:Nat)(hd:d≤n)(o:Option Int):sIx n d o≤n:=by
 cases o with
 |none=>exact hd
 |some v=>
  show (if v<0 then (v+(n:Int)).toNat else min v.toNat n)≤n
  by_cases hv:v<0
  ·rw [if_pos hv];omega
  ·rw [if_neg hv];exact Nat.min_le_right _ _
theorem W9 (v:Int)(n d:Nat):(if v<0 then max (v+(n:Int)) 0 else min v (n:Int))=((sIx n d (some v):Nat):Int):=by
 show (if v<0 then max (v+(n:Int)) 0 else min v (n:Int))=(((if v<0 then (v+(n:Int)).toNat else min v.toNat n):Nat):Int)
 by_cases hv:v<0
 ·simp only [if_pos hv];omega
 ·simp only [if_neg hv];omega
theorem Uf (lo hi:Option Int)(n:Nat):Builtin.Slice.sliceAdjust lo hi 1 (n:Int)=(((sIx n 0 lo:Nat):Int),((sIx n n hi:Nat):Int)):=by
 have h1:¬((1:Int)<0):=by omega
 unfold Builtin.Slice.sliceAdjust
 simp only [h1,if_false]
 refine Prod.ext ?_ ?_
 ·cases lo with
  |none=>rfl
  |some v=>exact W9 v n 0
 ·cases hi with
  |none=>rfl
  |some v=>exact W9 v n n
theorem Uq (i j:Nat):Builtin.Slice.slicePlaces (i:Int) (j:Int) 1=j-i:=by
 unfold Builtin.Slice.slicePlaces
 have h1:(1:Int)>0:=by omega
 simp only [h1,if_true,Int.ediv_one]
 split<;>omega
theorem Ms {v:Value}{o:Option Int}{Q:Option Int→Shared→Prop}(p:IsPart v o)(h:Q o s):wpAny (model prog w) A (Builtin.Slice.slicePartIndex v) Q E s:=by
 cases p with
 |none=>exact slicePart_none h
 |int i t=>exact slicePart_int h
theorem Kf {sl:Addr}{vl vu:Value}{lo hi:Option Int}{n:Nat}{Q:Int×Int×Nat→Shared→Prop}(hs:s.heap.IsSliceOf sl vl vu .none)(pl:IsPart vl lo)(pu:IsPart vu hi)
  (h:Q (((sIx n 0 lo:Nat):Int),1,sIx n n hi-sIx n 0 lo) s):wpAny (model prog w) A (Builtin.Slice.sliceApplied (.ref sl) (pure (n:Int))) Q E s:=by
 obtain ⟨os,hos,hcs,hds⟩:=id hs
 unfold Builtin.Slice.sliceApplied Builtin.Slice.sliceFields
 refine wpAny_bind (wpAny_bind (wpAny_field hos hds (x:=vl) rfl (wpAny_bind (wpAny_field hos hds (x:=vu) rfl (wpAny_bind (wpAny_field hos hds (x:=.none) rfl (wpAny_pure ?_)))))))
 refine wpAny_bind (slicePart_none ?_)
 show wpAny _ _ (if ((1:Int)==0)=true then _ else _) _ _ s
 rw [if_neg (by decide)]
 refine wpAny_bind (Ms pl (wpAny_bind (Ms pu (wpAny_bind (wpAny_pure ?_)))))
 show wpAny _ _ (match Builtin.Slice.sliceAdjust lo hi 1 (n:Int) with|(lo,hi)=>pure (lo,(1:Int),Builtin.Slice.slicePlaces lo hi 1)) _ _ s
 rw [Uf lo hi n]
 show wpAny _ _ (pure (((sIx n 0 lo:Nat):Int),(1:Int),Builtin.Slice.slicePlaces ((sIx n 0 lo:Nat):Int) ((sIx n n hi:Nat):Int) 1)) _ _ s
 rw [Uq]
 exact wpAny_pure h
theorem Aam (xs:Array Value)(i k:Nat):((List.range k).filterMap fun (m:Nat)=>xs[((i:Int)+(m:Int)*1).toNat]?).toArray=((xs.toList.drop i).take k).toArray:=by
 have e:(fun (m:Nat)=>xs[((i:Int)+(m:Int)*1).toNat]?)=fun m=>xs[i+m]?:=by
  funext m
  have:((i:Int)+(m:Int)*1).toNat=i+m:=by omega
  rw [this]
 rw [e]
 have:=pick_run xs i k
 rw [List.filterMap_map] at this
 have e2:((fun x=>xs[x]?) ∘ fun x=>i+x)=fun m=>xs[i+m]?:=rfl
 rw [e2] at this
 rw [this]
theorem getItem_tuple_cut {t sl:Addr}{items:Array Value}{vl vu:Value}{lo hi:Option Int}{Q:Value→Shared→Prop}(ht:IsTup s.heap t items)(hs:s.heap.IsSliceOf sl vl vu .none)(pl:IsPart vl lo)(pu:IsPart vu hi)
  (hw:¬(sIx items.size 0 lo=0∧sIx items.size items.size hi=items.size))
  (h:Q (.ref s.heap.objs.size) { s with heap:=s.heap.push { cls:=.type "tuple",data:=.seq ((items.toList.drop (sIx items.size 0 lo)).take (sIx items.size items.size hi-sIx items.size 0 lo)).toArray } })
  (hsz:items.size≤sizeLine):wpAny (model prog w) A (getItem (.ref t) (.ref sl)) Q E s:=by
 have htake:sizeOk (.seq ((items.toList.drop (sIx items.size 0 lo)).take (sIx items.size items.size hi-sIx items.size 0 lo)).toArray):=by
  show ((items.toList.drop (sIx items.size 0 lo)).take (sIx items.size items.size hi-sIx items.size 0 lo)).toArray.size≤sizeLine
  rw [List.size_toArray,List.length_take,List.length_drop,Array.length_toList]
  omega
 have hj:sIx items.size items.size hi≤items.size:=sIx_le _ _ (Nat.le_refl _) hi
 obtain ⟨os,hos,hcs,hds⟩:=id hs
 have hTs:s.TypeIs (.ref sl) "slice":=⟨os,hos,hcs⟩
 unfold getItem
 try with_reducible refine wpAny_holding ?_
 first|refine wpAny_bind (wpAny_pure ?_)|skip
 refine wpAny_bind (wpAny_sequenceKey ht.typeIs (by decide) ?_)
 refine wpAny_bind (wpAny_callSpecial?_slot (name:=Str.ofString "__getitem__") ht.typeIs PyProof.Rows.slot_tuple_getitem
  (wpAny_call_entry PyProof.Rows.slot_tuple_getitem ht.typeIs entry_tuple_getitem ?_ (args_tuple_getitem _ _)))
 show wpAny _ _ (Builtin.Tuple.tupleItemsOf (.ref t) >>= _) _ _ s
 refine wpAny_bind (tupleItemsOf_ ht ?_)
 refine wpAny_bind (wpAny_typeOf hTs ?_)
 rw [if_pos (by decide)]
 refine wpAny_bind (Kf hs pl pu ?_)
 have hno:¬((((sIx items.size 0 lo:Nat):Int)==0&&(1:Int)==1&&(sIx items.size items.size hi-sIx items.size 0 lo)==items.size)=true):=by
  intro q
  rw [Bool.and_eq_true,Bool.and_eq_true] at q
  have q1:((sIx items.size 0 lo:Nat):Int)=0:=eq_of_beq q.1.1
  have q2:sIx items.size items.size hi-sIx items.size 0 lo=items.size:=eq_of_beq q.2
  exact hw ⟨by omega,by omega⟩
 show wpAny _ _ (if (((sIx items.size 0 lo:Nat):Int)==0&&(1:Int)==1&&(sIx items.size items.size hi-sIx items.size 0 lo)==items.size)=true then _ else _) _ _ s
 rw [if_neg hno,Aam]
 first
  |exact wpAny_bind (m:=Builtin.Tuple.tupleExact _) (wpAny_newObj_type (wpAny_pure ⟨_,rfl,wpAny_pure h⟩) htake)
  |exact wpAny_bind (m:=Builtin.Tuple.tupleExact _) (wpAny_newObj_type (wpAny_bind (wpAny_pure (wpAny_pure ⟨_,rfl,wpAny_pure h⟩))) htake)
  |exact wpAny_bind (wpAny_bind (m:=Builtin.Tuple.tupleExact _) (wpAny_newObj_type (wpAny_pure (wpAny_pure ⟨_,rfl,wpAny_pure h⟩)) htake))
  |exact wpAny_bind (wpAny_bind (m:=Builtin.Tuple.tupleExact _) (wpAny_newObj_type (wpAny_pure ⟨_,rfl,wpAny_pure h⟩) htake))
end
end HT
namespace L2
open PySem PySem.Spec PyProof.Rows
abbrev TO:=St→Hp→(Option Int→Hp→Prop)→Prop
def PO (X:Cx)(e:Option Expr)(t:TO):Prop:=
 ∀(pins:List (Addr×Obj)) (s:Shared) (σ:St) (H:Hp) (Q:Option Int→Hp→Prop),Ar X pins σ H s→t σ H Q →
  wpAny (model X.prog X.w) X.A (evalPart e X.env) (fun u s'=>∃o H',Ar X pins σ H' s'∧IsPart u o∧Q o H') X.xe s
def Acw:TO:=fun _ H Q=>Q none H
def Akj (t:TE):TO:=fun σ H Q=>t σ H fun x H1=>∃i,x=.int i∧Q (some i) H1
section
variable {X:Cx}{e:Expr}{te:TE}{lo hi:Option Expr}{tl th:TO}{pos p2:Pos}
theorem Jg:PO X none Acw:=by
 intro pins s σ H Q I h
 rw [evalPart_none]
 exact wpAny_pure ⟨none,H,I,.none,h⟩
theorem Cj (h:PE X e te):PO X (some e) (Akj te):=by
 intro pins s σ H Q I hw
 rw [evalPart_some]
 refine thn (h pins s σ H _ I hw) fun u s1 ⟨x,H1,I1,r1,q1⟩=>?_
 obtain ⟨i,rfl,q⟩:=q1
 obtain ⟨t,rfl⟩:=r1
 exact ⟨some i,H1,I1,.int i t,q⟩
def SlR (X:Cx)(r:V→Option Int→Option Int→Hp→VK→Prop):Prop:=
 ∀(pins:List (Addr×Obj)) (s:Shared) (σ:St) (H:Hp) (x:V) (v vl vu:Value) (lo hi:Option Int) (sl:Addr) (Q:VK),Ar X pins σ H s→RelV x v→s.heap.IsSliceOf sl vl vu .none→IsPart vl lo→IsPart vu hi→r x lo hi H Q →
  ∃T id,typeLookup (.type T) "__getitem__"=pure (some (.builtin id))∧s.TypeIs v T∧wpAny (model X.prog X.w) X.A (getItem v (.ref sl)) (EP X pins σ Q) X.xe s
def tSl (r:V→Option Int→Option Int→Hp→VK→Prop)(te:TE)(tl th:TO):TE:=fun σ H Q=>te σ H fun x H1=>tl σ H1 fun l H2=>th σ H2 fun u H3=>r x l u H3 Q
theorem C2 {r:V→Option Int→Option Int→Hp→VK→Prop}(hr:SlR X r)(he:PE X e te)(hl:PO X lo tl)(hu:PO X hi th):PE X (.Subscript e (.Slice lo hi none p2) pos) (tSl r te tl th):=by
 intro pins s σ H Q I h
 refine Subscript_ (thn (he pins s σ H _ I h) fun v s1 ⟨x,H1,I1,r1,q1⟩=>?_)
 refine wpAny_Slice (thn (hl pins s1 σ H1 _ I1 q1) fun vl s2 ⟨l,H2,I2,pl,q2⟩=>thn (hu pins s2 σ H2 _ I2 q2) fun vu s3 ⟨u,H3,I3,pu,q3⟩=>?_)
 rw [evalPart_none]
 refine wpAny_pure ?_
 have I4:Ar X pins σ H3 { s3 with heap:=s3.heap.push { cls:=.type "slice",data:=.fields #[vl,vu,.none] } }:=I3.kept (t':=s3.toks) fun b ob q=>Heap.get?_push_of_some _ q
 obtain ⟨T,id,hT,ht,hg⟩:=hr pins { s3 with heap:=s3.heap.push { cls:=.type "slice",data:=.fields #[vl,vu,.none] } } σ H3 x v vl vu l u s3.heap.objs.size Q I4 r1 (Heap.IsSliceOf.new ..) pl pu q3
 show wpAny (model X.prog X.w) X.A (subscriptTail e (.Slice lo hi none p2) v (.ref s3.heap.objs.size)) (EP X pins σ Q) X.xe { s3 with heap:=s3.heap.push { cls:=.type "slice",data:=.fields #[vl,vu,.none] } }
 exact tail_any (ops:=[.ref s3.heap.objs.size,v]) ht hT hg (by with_unfolding_all rfl)
def Hd (xs:List V)(lo hi:Option Int):List V:=(xs.drop (HT.sIx xs.length 0 lo)).take (HT.sIx xs.length xs.length hi-HT.sIx xs.length 0 lo)
theorem K4 (xs:List V)(lo hi:Option Int):(Hd xs lo hi).length≤xs.length:=by
 unfold Hd
 rw [List.length_take,List.length_drop]
 omega
def Amm (K:PySem.W.Frag):V→Option Int→Option Int→Hp→VK→Prop:=fun x lo hi H Q=>∃a xs,x=.ref a∧E4 K H a xs ∧
 ¬(HT.sIx xs.length 0 lo=0∧HT.sIx xs.length xs.length hi=xs.length)∧∀p,H p=none→Q (.ref p) (upd H p (.tup (Hd xs lo hi)))
theorem Vm:SlR X (Amm X.K):=by
 intro pins s σ H x v vl vu lo hi sl Q I rx hs pl pu h
 obtain ⟨a,xs,rfl,hx,hw,q⟩:=h
 cases rx
 obtain ⟨its,r,ht,hz⟩:=I.tuple hx
 have hlen:its.toArray.size=xs.length:=by rw [List.size_toArray];exact r.length.symm
 refine ⟨"tuple",_,PyProof.Rows.slot_tuple_getitem.lookup,ht.typeIs,?_⟩
 refine HT.getItem_tuple_cut ht hs pl pu (by rw [hlen];exact hw) ?_ (by rw [hlen];exact hz)
 rw [hlen]
 refine ⟨.ref s.heap.objs.size,_,I.laid (t':=s.toks) (o:=.tup (Hd xs lo hi)) (fun b ob q=>Heap.get?_push_of_some _ q) (Nat.le_refl _) ?_,rfl,q _ (I.hok.fresh (Nat.le_refl _))⟩
 exact ⟨Nat.le_trans (K4 xs lo hi) hz,_,(r.drop (HT.sIx xs.length 0 lo)).take (HT.sIx xs.length xs.length hi-HT.sIx xs.length 0 lo),IsTup.new _ _⟩
end
end L2
namespace L2
open PySem PySem.Spec PyProof.Rows
def ixN (n:Nat)(i:Int):Option Nat:=if 0≤i then (if i<n then some i.toNat else none) else if -(n:Int)≤i then some (i+n).toNat else none
def Nv {α:Type}(xs:List α)(i:Int):Option α:=(ixN xs.length i).bind fun j=>xs[j]?
theorem Acy {n:Nat}{i:Int}{j:Nat}(h:ixN n i=some j):seqIndex? i n=some j∧j<n∧-(n:Int)≤i∧i<n:=by
 unfold ixN at h
 by_cases h0:0≤i
 ·rw [if_pos h0] at h
  by_cases h1:i<n
  ·rw [if_pos h1] at h
   have e:i.toNat=j:=Option.some.inj h
   exact ⟨by rw [seqIndex_of h0 h1,e],by omega,by omega,h1⟩
  ·rw [if_neg h1] at h;cases h
 ·rw [if_neg h0] at h
  by_cases h1:-(n:Int)≤i
  ·rw [if_pos h1] at h
   have e:(i+n).toNat=j:=Option.some.inj h
   exact ⟨by rw [seqIndex_neg (by omega) h1,e],by omega,h1,by omega⟩
  ·rw [if_neg h1] at h;cases h
theorem Qo {α:Type}{xs:List α}{i:Int}{v:α}(h:Nv xs i=some v):∃j,seqIndex? i xs.length=some j∧xs[j]? =some v∧j<xs.length∧-(xs.length:Int)≤i∧i<xs.length:=by
 unfold Nv at h
 cases e:ixN xs.length i with
 |none=>rw [e] at h;cases h
 |some j=>
  rw [e] at h
  obtain ⟨h1,h2,h3,h4⟩:=Acy e
  exact ⟨j,h1,h,h2,h3,h4⟩
theorem C5 {α:Type}{xs:List α}{j:Nat}{v:α}(h:xs[j]? =some v):Nv xs (j:Int)=some v:=by
 have hj:j<xs.length:=(List.getElem?_eq_some_iff.mp h).1
 have e:ixN xs.length (j:Int)=some j:=by
  unfold ixN
  rw [if_pos (by omega),if_pos (by omega)];simp
 unfold Nv;rw [e];exact h
def Adk (b:Expr):Prop:=∀o i,subscripted b false o i=operate [o,i] (getItem o i)
def IxR (X:Cx)(r:R2):Prop:=
 ∀(value slice:Expr) (pins:List (Addr×Obj)) (s:Shared) (σ:St) (H:Hp) (x y:V) (v u:Value) (Q:VK),Ar X pins σ H s→RelV x v→RelV y u→r x y H Q →
  subscripted slice false v u=operate [v,u] (getItem v u)→wpAny (model X.prog X.w) X.A (subscriptTail value slice v u) (EP X pins σ Q) X.xe s
def MtR (X:Cx)(id:String)(r:V→List V→Hp→VK→Prop):Prop:=
 ∀(pins:List (Addr×Obj)) (s:Shared) (σ:St) (H:Hp) (x:V) (xs:List V) (v:Value) (us:List Value) (Q:VK),Ar X pins σ H s→RelV x v→A4 xs us→r x xs H Q →
  wpAny (model X.prog X.w) X.A (call (.builtin id) (v::us)) (EP X pins σ Q) X.xe s
section
variable {X:Cx}{a b:Expr}{ta tb:TE}{pos:Pos}
theorem Ap {r:R2}(hr:IxR X r)(ha:PE X a ta)(hb:PE X b tb)(hs:Adk b):PE X (.Subscript a b pos) (tOp r ta tb):=by
 intro pins s σ H Q I h
 exact Subscript_ (Aio ha hb I h fun v u s2 x y H2 I2 rx ry q=>hr a b pins s2 σ H2 x y v u Q I2 rx ry q (hs _ _))
def Al8 (K:PySem.W.Frag):R2:=fun x y H Q=>∃p xs i v,x=.ref p∧y=.int i∧Ay K H p xs∧Nv xs i=some v∧Q v H
def Amd (K:PySem.W.Frag):R2:=fun x y H Q=>∃p xs i v,x=.ref p∧y=.int i∧E4 K H p xs∧Nv xs i=some v∧Q v H
def Alg:R2:=fun x y H Q=>∃z i c,x=.str z∧y=.int i∧z.length≤sizeLine∧Nv z.cps.toList i=some c∧Q (.str ⟨#[c]⟩) H
theorem Adj:IxR X (Al8 X.K):=by
 intro value slice pins s σ H x y v u Q I rx ry h hs
 obtain ⟨p,xs,i,z,rfl,rfl,hq,he,q⟩:=h
 cases rx
 obtain ⟨t,rfl⟩:=ry
 obtain ⟨its,r,pl,hz⟩:=I.list hq
 obtain ⟨j,h1,h2,h3,h4,h5⟩:=Qo he
 obtain ⟨w,ew,rw'⟩:=r.get h2
 have hl:=r.length
 have hn:=Mq
 have fin:EP X pins σ Q w s:=⟨z,H,I,rw',q⟩
 by_cases h0:0≤i
 ·have hj:i.toNat=j:=by
   rw [seqIndex_of h0 h5] at h1
   exact Option.some.inj h1
  exact item_listR pl.isList h0 (by omega) (by rw [hj];simpa using ew) fin hs
 ·have hj:(i+(its.toArray.size:Int)).toNat=j:=by
   rw [seqIndex_neg (by omega) h4] at h1
   rw [List.size_toArray,←hl]
   exact Option.some.inj h1
  exact subscriptTail_builtinR (x:=w) pl.isList.typeIs slot_list_getitem.lookup
   (wpAny_getItem_list_neg (Q:=fun r s'=>r=w∧EP X pins σ Q r s') pl.isList (by omega) (by rw [List.size_toArray]<;>omega) (by omega) (by rw [hj];simpa using ew) ⟨rfl,fin⟩) hs
theorem Ahc:IxR X (Amd X.K):=by
 intro value slice pins s σ H x y v u Q I rx ry h hs
 obtain ⟨p,xs,i,z,rfl,rfl,hq,he,q⟩:=h
 cases rx
 obtain ⟨t,rfl⟩:=ry
 obtain ⟨its,r,pl,hz⟩:=I.tuple hq
 obtain ⟨j,h1,h2,h3,h4,h5⟩:=Qo he
 obtain ⟨w,ew,rw'⟩:=r.get h2
 have hl:=r.length
 have hn:=Mq
 have fin:EP X pins σ Q w s:=⟨z,H,I,rw',q⟩
 exact subscriptTail_builtinR (x:=w) pl.typeIs slot_tuple_getitem.lookup
  (getItem_tuple (j:=j) (Q:=fun r s'=>r=w∧EP X pins σ Q r s') pl (by omega) (by omega) (by rw [List.size_toArray,←hl];exact h1) (by simpa using ew) ⟨rfl,fin⟩) hs
theorem Afo:IxR X Alg:=by
 intro value slice pins s σ H x y v u Q I rx ry h hs
 obtain ⟨z,i,c,rfl,rfl,hz,he,q⟩:=h
 obtain ⟨t,rfl⟩:=rx
 obtain ⟨t',rfl⟩:=ry
 obtain ⟨j,h1,h2,h3,h4,h5⟩:=Qo he
 have hl:z.cps.toList.length=z.length:=by simp [Str.length]
 rw [hl] at h1 h4 h5
 have hn:=Mq
 exact tail_any (typeIs_str s z t) slot_str_getitem.lookup (getItem_str (c:=c) (by
  have e1:decide (i < -(2 ^ 63:Int))=false:=decide_eq_false (by omega)
  have e2:decide (i≥2 ^ 63)=false:=decide_eq_false (by omega)
  rw [e1,e2,Bool.or_false]) (by rw [h1];simpa using h2) ⟨.str ⟨#[c]⟩,H,I.tok _,⟨_,rfl⟩,q⟩) hs
theorem Ra (lo hi:Option Int)(n:Nat):(sliceBounds lo hi none n).1=((HT.sIx n 0 lo:Nat):Int)∧(sliceBounds lo hi none n).2.1=((HT.sIx n n hi:Nat):Int)∧(sliceBounds lo hi none n).2.2=1:=by
 refine ⟨?_,?_,rfl⟩
 ·cases lo with
  |none=>simp [sliceBounds,HT.sIx]
  |some i=>
   simp only [sliceBounds,HT.sIx,Option.getD_none,show (1:Int)>0 by decide,if_true]
   by_cases h:i<0
   ·simp only [h,if_true]<;>omega
   ·simp only [h,if_false]<;>omega
 ·cases hi with
  |none=>simp [sliceBounds,HT.sIx]
  |some i=>
   simp only [sliceBounds,HT.sIx,Option.getD_none,show (1:Int)>0 by decide,if_true]
   by_cases h:i<0
   ·simp only [h,if_true]<;>omega
   ·simp only [h,if_false]<;>omega
theorem Nu (its:List Value)(lo hi:Option Int):slicePick its.toArray lo hi none=((its.drop (HT.sIx its.length 0 lo)).take (HT.sIx its.length its.length hi-HT.sIx its.length 0 lo)).toArray:=by
 obtain ⟨h1,h2,h3⟩:=Ra lo hi its.toArray.size
 unfold slicePick
 rw [h1,h2,h3]
 simp only [sliceRange_one,pick_run,List.size_toArray]<;>rfl
def Aln (K:PySem.W.Frag):V→Option Int→Option Int→Hp→VK→Prop:=fun x lo hi H Q=>∃a xs,x=.ref a∧Ay K H a xs∧∀p,H p=none→Q (.ref p) (upd H p (.lst (Hd xs lo hi)))
theorem Ack:SlR X (Aln X.K):=by
 intro pins s σ H x v vl vu lo hi sl Q I rx hs pl pu h
 obtain ⟨a,xs,rfl,hx,q⟩:=h
 cases rx
 obtain ⟨its,r,ht,hz⟩:=I.list hx
 have hlen:=r.length
 refine ⟨"list",_,slot_list_getitem.lookup,ht.isList.typeIs,?_⟩
 refine wpAny_getItem_list_slice ht.isList hs pl pu .none (by simp) ?_ (by rw [List.size_toArray]<;>omega)
 rw [Nu,←hlen]
 refine ⟨.ref s.heap.objs.size,_,I.laid (t':=s.toks) (o:=.lst (Hd xs lo hi)) (fun b ob q=>Heap.get?_push_of_some _ q) (Nat.le_refl _) ?_,rfl,q _ (I.hok.fresh (Nat.le_refl _))⟩
 exact ⟨Nat.le_trans (K4 xs lo hi) hz,_,0,(r.drop (HT.sIx xs.length 0 lo)).take (HT.sIx xs.length xs.length hi-HT.sIx xs.length 0 lo),Heap.get?_push_size _ rfl⟩
def G6:V→Bool
 |.non=>true
 |.bl _=>true
 |.int _=>true
 |.str _=>true
 |_=>false
def eqV:V→V→Bool
 |.non,.non=>true
 |.bl a,.bl b=>a==b
 |.bl a,.int b=>(if a then 1 else 0)==b
 |.int a,.bl b=>a==(if b then 1 else 0)
 |.int a,.int b=>a==b
 |.str a,.str b=>a==b
 |_,_=>false
theorem Af9 {A:Around}{s:Shared}{y x:V}{u v:Value}(ry:RelV y u)(rx:RelV x v)(fy:G6 y=true)(fx:G6 x=true):SeqAt.EqAt A s u v (eqV y x):=by
 cases y with
 |non=>
  cases ry
  cases x with
  |non=>cases rx;exact SeqAt.EqAt.same _
  |bl b=>cases rx;exact SeqAt.EqAt.none_bool b
  |int b=>obtain ⟨t,rfl⟩:=rx;exact SeqAt.EqAt.none_int b t
  |str b=>obtain ⟨t,rfl⟩:=rx;exact SeqAt.EqAt.none_str b t
  |_=>exact absurd (show false=true from fx) Bool.false_ne_true
 |bl a=>
  cases ry
  cases x with
  |non=>cases rx;exact SeqAt.EqAt.bool_none a
  |bl b=>cases rx;exact SeqAt.EqAt.bool_bool a b
  |int b=>obtain ⟨t,rfl⟩:=rx;exact SeqAt.EqAt.bool_int a b t
  |str b=>obtain ⟨t,rfl⟩:=rx;exact SeqAt.EqAt.bool_str a b t
  |_=>exact absurd (show false=true from fx) Bool.false_ne_true
 |int a=>
  obtain ⟨t',rfl⟩:=ry
  cases x with
  |non=>cases rx;exact SeqAt.EqAt.int_none a t'
  |bl b=>cases rx;exact SeqAt.EqAt.int_bool a t' b
  |int b=>obtain ⟨t,rfl⟩:=rx;exact SeqAt.EqAt.int_int a t' b t
  |str b=>obtain ⟨t,rfl⟩:=rx;exact SeqAt.EqAt.int_str a t' b t
  |_=>exact absurd (show false=true from fx) Bool.false_ne_true
 |str a=>
  obtain ⟨t',rfl⟩:=ry
  cases x with
  |non=>cases rx;exact SeqAt.EqAt.str_none a t'
  |bl b=>cases rx;exact SeqAt.EqAt.str_bool a t' b
  |int b=>obtain ⟨t,rfl⟩:=rx;exact SeqAt.EqAt.str_int a t' b t
  |str b=>obtain ⟨t,rfl⟩:=rx;exact SeqAt.EqAt.str_str a t' b t
  |_=>exact absurd (show false=true from fx) Bool.false_ne_true
 |_=>exact absurd (show false=true from fy) Bool.false_ne_true
def eqU (x:V)(u:Value):Bool:=match u with
 |.none=>eqV .non x
 |.bool b=>eqV (.bl b) x
 |.int i _=>eqV (.int i) x
 |.str z _=>eqV (.str z) x
 |_=>false
theorem Y8 {x y:V}{u:Value}(r:RelV y u)(f:G6 y=true):eqU x u=eqV y x:=by
 cases y with
 |non=>cases r;rfl
 |bl b=>cases r;rfl
 |int i=>obtain ⟨t,rfl⟩:=r;rfl
 |str z=>obtain ⟨t,rfl⟩:=r;rfl
 |_=>exact absurd (show false=true from f) Bool.false_ne_true
theorem P5 {x:V}:∀{xs:List V} {us:List Value},A4 xs us→xs.all G6=true→us.any (eqU x)=xs.any fun y=>eqV y x
 |_,_,.nil,_=>rfl
 |y::xs,u::us,.cons r t,f=>by
  rw [List.all_cons,Bool.and_eq_true] at f
  rw [List.any_cons,List.any_cons,Y8 r f.1,P5 t f.2]
theorem Mt {A:Around}{s:Shared}{x:V}{v:Value}(rx:RelV x v)(fx:G6 x=true):∀{xs:List V} {us:List Value},A4 xs us→xs.all G6=true→∀u∈us,SeqAt.EqAt A s u v (eqU x u)
 |_,_,.nil,_=>fun u hu=>by cases hu
 |y::xs,u::us,.cons r t,f=>fun u' hu=>by
  rw [List.all_cons,Bool.and_eq_true] at f
  rcases List.mem_cons.mp hu with rfl|hu
  ·rw [Y8 r f.1];exact Af9 r rx f.1 fx
  ·exact Mt rx fx t f.2 u' hu
def inV (x:V)(xs:List V):Bool:=xs.any fun y=>eqV y x
def rIn (K:PySem.W.Frag)(neg:Bool):R2:=fun x y H Q=>∃p xs,y=.ref p∧(Ay K H p xs∨E4 K H p xs)∧G6 x=true∧xs.all G6=true∧Q (.bl (if neg then !inV x xs else inV x xs)) H
theorem Xq:Dv X (compareOp .In) (rIn X.K false):=by
 intro pins s σ H x y v u Q I rx ry h
 obtain ⟨p,xs,rfl,hq,fx,fs,q⟩:=h
 cases ry
 rcases hq with hq|hq
 ·obtain ⟨its,r,pl,hz⟩:=I.list hq
  refine SeqAt.in_listAt (eqU x) pl.isList (fun w hw=>Mt rx fx r fs w (by simpa using hw)) ⟨.bl _,H,I,rfl,?_⟩
  rw [show its.toArray.any (eqU x)=its.any (eqU x) by simp,P5 r fs]
  exact q
 ·obtain ⟨its,r,pl,hz⟩:=I.tuple hq
  refine SeqAt.in_tupleAt (eqU x) pl (fun w hw=>Mt rx fx r fs w (by simpa using hw)) ⟨.bl _,H,I,rfl,?_⟩
  rw [show its.toArray.any (eqU x)=its.any (eqU x) by simp,P5 r fs]
  exact q
theorem Pw:Ed X (.builtin "len") (fun xs H Q=>∃p ys,xs=[.ref p]∧(Ay X.K H p ys∨E4 X.K H p ys)∧Q (.int ys.length) H):=by
 intro pins s σ H xs us Q I r h
 obtain ⟨p,ys,rfl,hq,q⟩:=h
 obtain ⟨u,rfl,rx⟩:=K1 r
 cases rx
 have hn:=Mq
 rcases hq with hq|hq
 ·obtain ⟨its,r',pl,hz⟩:=I.list hq
  have hlen:=r'.length
  exact Calls.call_len_list pl.isList (by simp only [List.size_toArray]<;>omega) ⟨.int ys.length,H,I.tok _,⟨s.toks+1,by rw [List.size_toArray,hlen]⟩,q⟩
 ·obtain ⟨its,r',pl,hz⟩:=I.tuple hq
  have hlen:=r'.length
  exact len_tuple pl (by simp only [List.size_toArray]<;>omega) ⟨.int ys.length,H,I.tok _,⟨s.toks+1,by rw [List.size_toArray,hlen]⟩,q⟩
theorem P8:Ed X (.builtin "len") (fun xs H Q=>∃z,xs=[.str z]∧z.length≤sizeLine∧Q (.int z.length) H):=by
 intro pins s σ H xs us Q I r h
 obtain ⟨z,rfl,hz,q⟩:=h
 obtain ⟨u,rfl,t,rfl⟩:=K1 r
 have hn:=Mq
 exact len_str (by omega) ⟨.int z.length,H,I.tok _,⟨_,rfl⟩,q⟩
theorem Jj:Ed X (.type "list") (fun xs H Q=>∃p ys,xs=[.ref p]∧(Ay X.K H p ys∨E4 X.K H p ys)∧∀l,H l=none→Q (.ref l) (upd H l (.lst ys))):=by
 intro pins s σ H xs us Q I r h
 obtain ⟨p,ys,rfl,hq,q⟩:=h
 obtain ⟨u,rfl,rx⟩:=K1 r
 cases rx
 have fin:∀(its:List Value),A4 ys its→ys.length≤sizeLine→∀(h':Heap) (c':Nat),(∀b o',s.heap.get? b=some o'→h'.get? b=some o') →
   h'.get? s.heap.objs.size=some { cls:=.type "list",dict:=none,data:=.seq its.toArray c',slots:=#[] }→EP X pins σ Q (.ref s.heap.objs.size) { s with heap:=h' }:=fun its r' hz h' c' kp e=>
  ⟨.ref s.heap.objs.size,_,I.laid (t':=s.toks) kp (Nat.le_refl _) (show Bb X.prog X.w _ h' _ (.lst ys) from ⟨hz,its,c',r',e⟩),rfl,q _ (I.hok.fresh (Nat.le_refl _))⟩
 rcases hq with hq|hq
 ·obtain ⟨its,r',pl,hz⟩:=I.list hq
  have hlen:=r'.length
  obtain ⟨o,ho,hc,n,hd⟩:=pl.isList
  exact call_list_seq p (.inl rfl) ho hc hd (fun h' c' kp e=>fin its r' hz h' c' kp e) (by simp only [List.size_toArray]<;>omega)
 ·obtain ⟨its,r',pl,hz⟩:=I.tuple hq
  have hlen:=r'.length
  obtain ⟨o,ho,hc,n,hd⟩:=pl
  exact call_list_seq p (.inr rfl) ho hc hd (fun h' c' kp e=>fin its r' hz h' c' kp e) (by simp only [List.size_toArray]<;>omega)
def tyV (K:PySem.W.Frag)(T:String)(x:V)(H:Hp):Prop:=match x with
 |.str _=>T="str"
 |.int _=>T="int"
 | .ref p=>(T="list"∧∃xs,Ay K H p xs)∨(T="tuple"∧∃o,K.lookup p=some o∧o.cls=.type "tuple"∧o.dict=none) ∨
   (T="dict"∧((∃kvs,H p=some (.dK kvs))∨∃kvs,H p=some (.dT kvs)))∨(T="set"∧∃S n,H p=some (.set S n))
 |_=>False
theorem Aid {pins:List (Addr×Obj)}{σ:St}{H:Hp}{s:Shared}{T:String}{x:V}{v:Value}(I:Ar X pins σ H s)(r:RelV x v)(ty:tyV X.K T x H) :
  s.TypeIs v T∧∀a,v=.ref a→∃ob,s.heap.get? a=some ob∧ob.dict=none:=by
 cases x with
 |str z=>
  obtain ⟨t,rfl⟩:=r
  cases (show T="str" from ty)
  exact ⟨typeIs_str s z t,fun _ e=>nomatch e⟩
 |int i=>
  obtain ⟨t,rfl⟩:=r
  cases (show T="int" from ty)
  exact ⟨typeIs_int s i t,fun _ e=>nomatch e⟩
 | ref p=>
  cases r
  rcases ty with ⟨rfl,xs,hq⟩|⟨rfl,o,hk,hc,hd⟩|⟨rfl,hk⟩|⟨rfl,S,n,hk⟩
  ·obtain ⟨its,_,pl,_⟩:=I.list hq
   refine ⟨pl.isList.typeIs,fun a e=>?_⟩
   cases e
   obtain ⟨o,n,e,c,hd,_⟩:=pl
   exact ⟨o,e,hd⟩
  ·refine ⟨⟨o,I.kIn p o hk,hc⟩,fun a e=>?_⟩
   cases e
   exact ⟨o,I.kIn _ o hk,hd⟩
  ·have z:∃o,s.heap.get? p=some o∧o.ExactDict:=by
    rcases hk with ⟨kvs,hk⟩|⟨kvs,hk⟩
    ·obtain ⟨_,_,_,_,o,_,_,e,ex,_⟩:=I.hok p _ hk
     exact ⟨o,e,ex⟩
    ·obtain ⟨_,_,_,_,o,_,_,e,ex,_⟩:=I.hok p _ hk
     exact ⟨o,e,ex⟩
   obtain ⟨o,e,ex⟩:=z
   refine ⟨⟨o,e,ex.1⟩,fun a e2=>?_⟩
   cases e2
   exact ⟨o,e,ex.2.1⟩
  ·obtain ⟨o,_,_,_,e,ex,_⟩:=I.hok p _ hk
   refine ⟨⟨o,e,ex.1⟩,fun a e2=>?_⟩
   cases e2
   exact ⟨o,e,ex.2.1⟩
 |_=>exact False.elim ty
def tBM (K:PySem.W.Frag)(T:String)(r:V→List V→Hp→VK→Prop)(to:TE)(t:TA):TE:=fun σ H Q=>to σ H fun x H1=>tyV K T x H1∧t σ H1 fun xs H2=>r x xs H2 Q
variable {o e:Expr}{es:List Expr}{to:TE}{t:TA}{name:Str}{apos cpos:Pos}{T id:String}{r:V→List V→Hp→VK→Prop}
theorem G4 (pa:PlainAttrs T)(slot:Slot T name id)(hty:typeOf (.builtin id)=pure (.type "method_descriptor"))(hm:MtR X id r)(ho:PE X o to)(ha:PA X (e::es) t)
  (hbase:attributeBase o name X.env (eval o X.env)=eval o X.env:=by rfl)
  (hfew:((backTo cpos (starEach (e::es) X.env)).all (fun x=>!x.1)&&(backToKw cpos (keywordEach [] X.env)).all (fun x=>x.1.isSome)
   && decide ((e::es).length+([]:List Keyword).length+(if ([]:List Keyword).isEmpty then 0 else 1)<30))=true:=by rfl)
  (hline:(apos.endLine==cpos.line)=true:=by rfl) (hs:starEach (e::es) X.env=(false,eval e X.env)::starEach es X.env:=by rfl) (hplain:(backTo cpos (starEach es X.env)).any (·.1)=false:=by rfl) :
  PE X (.Call (.Attribute o name apos) (e::es) [] cpos) (tBM X.K T r to t):=by
 intro pins s σ H Q I h
 refine wpAny_Call_method_late hbase hfew hline rfl (thn (ho pins s σ H _ I h) fun v s1 ⟨x,H1,I1,r1,ty,q1⟩=>?_)
 obtain ⟨h1,h2⟩:=Aid I1 r1 ty
 refine ⟨T,id,pa,slot,hty,h1,h2,?_⟩
 have hA:=ha cpos pins s1 σ H1 _ I1 q1
 rw [hs] at hA ⊢
 refine Calls.callWith_builtin (by show (false||(backTo cpos (starEach es X.env)).any (·.1))=false;rw [hplain]<;>rfl) (Calls.evalArgs_plain ?_)
 exact thn hA fun us s2 ⟨vs,H2,I2,r2,q2⟩=>hm pins s2 σ H2 x vs v us Q I2 r1 r2 q2
/- xs.append(e),list.index on a module's tuple .. are MtR facts of 06m -/
end
end L2
namespace L2
open PySem PySem.Spec PyProof.Rows
def MtM (X:Cx)(id:String)(r:V→List V→Hp→VK→Prop):Prop:=
 ∀(pins:List (Addr×Obj)) (s:Shared) (σ:St) (H:Hp) (x:V) (xs:List V) (v:Value) (us:List Value) (Q:VK),Ar X pins σ H s→RelV x v→A4 xs us→r x xs H Q →
  wpAny (model X.prog X.w) X.A (call (.builtin id) (v::us)) (EP X pins σ Q) X.xe s
theorem A4.one:∀{x:V} {us:List Value},A4 [x] us→∃u,us=[u]∧RelV x u
 |_,_,.cons r .nil=>⟨_,rfl,r⟩
theorem A4.eraseIdx:∀{xs:List V} {us:List Value} (i:Nat),A4 xs us→A4 (xs.eraseIdx i) (us.eraseIdx i)
 |_,_,_,.nil=>.nil
 |_,_,0,.cons _ t=>t
 |_,_,i+1,.cons r t=>.cons r (A4.eraseIdx i t)
theorem Pk {α:Type}:∀(l:List α) (i:Nat),(l.eraseIdx i).length≤l.length
 |[],_=>Nat.le_refl _
 |_::_,0=>Nat.le_succ _
 |_::r,i+1=>Nat.succ_le_succ (Pk r i)
section
variable {X:Cx}{pins:List (Addr×Obj)}{σ:St}{H:Hp}{s:Shared}{l b:Addr}{xs ys zs:List V}
theorem Ar.lset {its its':List Value}{n:Nat}{f:Array Value→Array Value}{t':Nat}(I:Ar X pins σ H s)(hH:H l=some (.lst xs))
  (e:s.heap.get? l=some { cls:=.type "list",data:=.seq its.toArray n }) (hf:f its.toArray=its'.toArray) (hv:A4 ys its') (hz:ys.length≤sizeLine) :
  Ar X pins σ (upd H l (.lst ys)) { s with heap:=s.heap.update l (Obj.mapSeq f),toks:=t' }:=by
 have q:=PySem.IsL.update e f
 rw [hf] at q
 refine I.write (x:=l) (e:=l) (by rw [hH];exact trivial) (.inl rfl) (fun b' u hb hu=>(Heap.get?_update_other s.heap (Obj.mapSeq f) (Ne.symm hb)).trans hu) ⟨_,q⟩ ?_
 exact ⟨hz,its',_,hv,q⟩
theorem Ar.lnew {its:List Value}{t':Nat}(I:Ar X pins σ H s)(hv:A4 ys its)(hz:ys.length≤sizeLine) :
  Ar X pins σ (upd H s.heap.objs.size (.lst ys)) { s with heap:=s.heap.push { cls:=.type "list",data:=.seq its.toArray },toks:=t' } :=
 I.laid (fun _ _ q=>Heap.get?_push_of_some _ q) (Nat.le_refl _) ⟨hz,its,0,hv,Heap.get?_push_size _ rfl⟩
theorem Ar.fresh (I:Ar X pins σ H s):H s.heap.objs.size=none:=I.hok.fresh (Nat.le_refl _)
theorem Ar.lstM (I:Ar X pins σ H s)(hH:H l=some (.lst xs)):xs.length≤sizeLine∧∃(its:List Value) (n:Nat),A4 xs its∧xs.length=its.length∧s.heap.get? l=some { cls:=.type "list",data:=.seq its.toArray n }:=by
 obtain ⟨z,its,n,r,e⟩:=I.hok l _ hH
 exact ⟨z,its,n,r,r.length,e⟩
theorem Abi {n:Nat}(h:n≤sizeLine):Builtin.List.listTooLong n=false:=by
 unfold Builtin.List.listTooLong
 exact decide_eq_false (by omega)
end
section
variable {X:Cx}
def Aen:V→List V→Hp→VK→Prop:=fun x vs H Q=>∃l xs y,x=.ref l∧vs=[y]∧H l=some (.lst xs)∧xs.length<sizeLine∧Q .non (upd H l (.lst (xs++[y])))
theorem Dm:MtM X "list.append" Aen:=by
 intro pins s σ H x vs v us Q I rx rv h
 obtain ⟨l,xs,y,rfl,rfl,hH,hz,q⟩:=h
 cases rx
 obtain ⟨u,rfl,ru⟩:=rv.one
 obtain ⟨z,its,n,r,hl,e⟩:=I.lstM hH
 refine call_meets F.slot_list_append ⟨_,e,rfl⟩ F.entry_list_append (F.args_list_append_2 _ _) (PySem.list_append l its.toArray n u (by rw [List.size_toArray];omega)) ⟨e,?_⟩
 refine ⟨.non,_,I.lset (its':=its++[u]) hH e (by simp) (r.append (.cons ru .nil)) ?_,rfl,q⟩
 rw [List.length_append,List.length_singleton]
 omega
def Afp:V→List V→Hp→VK→Prop:=fun x vs H Q=>∃l xs i k y,x=.ref l∧vs=[.int i]∧H l=some (.lst xs)∧-(2 ^ 63)≤i∧i<2 ^ 63∧seqIndex? i xs.length=some k∧xs[k]? =some y∧Q y (upd H l (.lst (xs.eraseIdx k)))
theorem Lh:MtM X "list.pop" Afp:=by
 intro pins s σ H x vs v us Q I rx rv h
 obtain ⟨l,xs,i,k,y,rfl,rfl,hH,h1,h2,hk,hy,q⟩:=h
 cases rx
 obtain ⟨u,rfl,ru⟩:=rv.one
 obtain ⟨t,rfl⟩:=ru
 obtain ⟨z,its,n,r,hl,e⟩:=I.lstM hH
 obtain ⟨w,hw,rw'⟩:=r.get hy
 refine call_meets F.slot_list_pop ⟨_,e,rfl⟩ F.entry_list_pop (F.args_list_pop_2 _ _)
  (MeetsSeq.list_pop_at l its.toArray n i t k w (fitsIndex_both h1 h2) (by rw [List.size_toArray,←hl];exact hk) (by rw [←Array.getElem?_toList];exact hw) (by rw [List.size_toArray];omega)) ⟨e,?_⟩
 refine ⟨y,_,I.lset (its':=its.eraseIdx k) hH e ?_ (r.eraseIdx k) ?_,rw',q⟩
 ·show its.toArray.eraseIdxIfInBounds k=(its.eraseIdx k).toArray
  rw [List.eraseIdxIfInBounds_toArray]
 ·have:=Pk xs k
  omega
def Amo:R2:=fun x y H Q=>∃l b xs zs,x=.ref l∧y=.ref b∧H l=some (.lst xs)∧H b=some (.lst zs)∧xs.length+zs.length≤sizeLine∧∀p,H p=none→Q (.ref p) (upd H p (.lst (xs++zs)))
theorem Agg:Dv X (binaryOp .Add) Amo:=by
 intro pins s σ H x y v u Q I rx ry h
 obtain ⟨l,b,xs,zs,rfl,rfl,hH,hB,hz,q⟩:=h
 cases rx
 cases ry
 obtain ⟨z,its,n,r,hl,e⟩:=I.lstM hH
 obtain ⟨z2,its2,n2,r2,hl2,e2⟩:=I.lstM hB
 refine PySem.P.add_list e e2 ?_ (by rw [List.size_toArray,List.size_toArray];omega)
 have ea:its.toArray++its2.toArray=(its++its2).toArray:=by simp
 rw [ea]
 exact ⟨.ref _,_,I.lnew (t':=s.toks) (r.append r2) (by rw [List.length_append];omega),rfl,q _ I.fresh⟩
end
section
variable {prog:Program}{w:World}{A:Around}{E:Value→Shared→Prop}{s:Shared}
set_option maxRecDepth 100000 in
end
section
variable {X:Cx}
end
end L2
namespace Att
open PySem PySem.W PySem.Calls PyProof.Rows
theorem La {P:Params}{h:Heap}:∀(ns:List Int) (vs:List Value),WellAll P h vs (ns.map WData.int)→IntsAre vs ns:=by
 intro ns
 induction ns with
 |nil=>
  intro vs w
  rw [List.map_nil] at w
  cases w
  exact .nil
 | cons n ns ih=>
  intro vs w
  rw [List.map_cons] at w
  cases w with
  |cons a b=>
   cases a
   exact .cons _ _ (ih _ b)
theorem script_of {l:OpenLaw}{n:Nat}(hn:l.most=some n){P:Params}{h:Heap}{args:List WData}{vals:List Value}
  (hpre:l.row.toRowW.claim.pre args=true) (hwl:WellAll P h vals args) :
  ∃a vs ns,vals=[Value.ref a]∧args=[WData.list (ns.map WData.int)]∧h.get? a=some { cls:=.type "list",data:=.seq vs.toArray }∧IntsAre vs ns∧ns.length≤n:=by
 have hsh:WShape.hasAll [] args [.list .int]=true:=(pre_splitW hpre).1
 have hc:l.pre.holds [] { args:=args }=true:=(pre_splitW hpre).2
 obtain ⟨d,r,rfl,h1,h2⟩:=hasAllW_cons hsh
 obtain rfl:=hasAllW_nil h2
 obtain ⟨xs,rfl,h3⟩:=hasW_list h1
 obtain ⟨ns,rfl⟩:=items_int h3
 have hlen:ns.length≤n:=by
  unfold OpenLaw.pre at hc
  have h4:(WTm.not (.lt (.lit (.int (n:Int))) (.len (.arg 0)))).holds [] { args:=[.list (ns.map .int)] }=true:=by
   have h4:=(holds_andW hc).1
   rw [hn] at h4
   exact h4
  have h5:=condW_of h4 (w_not (w_lt w_lit (w_len_list (w_arg rfl))))
  rw [List.length_map] at h5
  refine Nat.le_of_not_lt fun q=>?_
  have q':(n:Int)<((ns.length:Nat):Int):=by omega
  first
   |(rw [decide_eq_true q'] at h5;exact absurd h5 (by decide))
   |(simp at h5;omega)
 cases hwl with
 |cons w1 w2=>
  cases w2
  cases w1 with
  |list ho hall=>exact ⟨_,_,ns,rfl,rfl,ho,La ns _ hall,hlen⟩
theorem post_true (l:OpenLaw)(args:List WData):l.row.toRowW.claim.post args (.bool true) args=true:=
 postW_of (r:=l.row.toRowW) (X:=(true==true))
  (show WShape.has [] (.bool true) .bool=true by first|rfl|decide|simp [WShape.has,WShape.arms,WShape.armsAll])
  (show (WTm.eq .res (.lit (.bool true))).value [] { args:=args,res:=some (.bool true),after:=args }=some (.bool (true==true)) from w_eq_bool (w_res rfl) w_lit) rfl
section
variable {prog:Program}{w:World}{A:Around}{E:Value→Shared→Prop}{s:Shared}{K:Frag}
end
end Att
namespace L2
open PySem PySem.Spec PyProof.Rows
theorem Ot:∀{vs:List Value} {ns:List Int},IntsAre vs ns→A4 (ns.map V.int) vs
 |_,_,.nil=>.nil
 |_,_,.cons n t h=>.cons ⟨t,rfl⟩ (Ot h)
end L2
namespace L2
open PySem PySem.Spec PyProof.Rows
end L2
/- THE LAST THEOREM (shape;LID,My.* are yours):
   My.Adr: a structure of the addresses that your layer names (classes,functions);My.Txt K t: a structure (Prop) of the equations over K;
   My.txt_mk:{K} {implicit addresses ..} (e1:nsIn K mainGlobals "law"=some (some (.ref f))) (e2:K.lookup f=some ⟨oc,od,.func (fnOf "law" "law" params body scope dV kV doc pm an cdv ct),sl⟩) (e3:codeIn K cdv "law"=true) ..:∃t,My.Txt K t
set_option maxRecDepth 100000 in
set_option maxHeartbeats 0 in
(the tactic k_is has no namespace: write k_is) -/
namespace L2
open PySem PySem.Spec PyProof.Rows
def Bt (s:Stmt)(j:Nat):Stmt:=match s with
 |.ClassDef _ _ _ body _ _ _ _ _ _ _=>body.getD j (.Pass ⟨0,0,0,0⟩)
 |_=>.Pass ⟨0,0,0,0⟩
def C9 (s:Stmt):Arguments:=match s with
 |.FunctionDef _ a _ _ _ _ _ _ _ _=>a
 |_=>{ posonlyargs:=[],args:=[],vararg:=none,kwonlyargs:=[],kw_defaults:=[],kwarg:=none,defaults:=[] }
def Bz (s:Stmt):List Stmt:=match s with
 |.FunctionDef _ _ b _ _ _ _ _ _ _=>b
 |_=>[]
def Af (s:Stmt):Scope:=match s with
 |.FunctionDef _ _ _ _ _ _ sc _ _ _=>sc
 |_=>{ kind:=.function,names:=[],isGenerator:=false,isCoroutine:=false }
abbrev E0:XK:=fun _ _ _=>False
structure Fun (K:PySem.W.Frag)(x qual:Str)(st:Stmt)(f:Addr)(fd:FuncData):Prop where
 ex:∃(oc:Value) (od:Option Addr) (kV doc pm:Value) (an:Option Addr) (cdv ct:Value) (osl:Array (Option Value)),
  fd=PySem.W.fnOf x qual (C9 st) (Bz st) (Af st) .none kV doc pm an cdv ct∧K.lookup f=some ⟨oc,od,.func fd,osl⟩∧PySem.W.codeIn K cdv qual=true
 kp:PySem.W.keepIn K (.ref f)=true
section
variable {P:Program}{w:World}{K:PySem.W.Frag}{mg:Str→Option Value}{base:Heap}
theorem Fun.binds {x qual:Str}{st:Stmt}{f:Addr}{fd:FuncData}{ps:List Str}(F:Fun K x qual st f fd)
  (h:∀(kV doc pm:Value) (an:Option Addr) (cdv ct:Value) (us:List Value),us.length=ps.length→bindArgs (PySem.W.fnOf x qual (C9 st) (Bz st) (Af st) .none kV doc pm an cdv ct) ⟨us,[]⟩=pure (ps.zip us)):Gh K fd ps []:=by
 obtain ⟨oc,od,kV,doc,pm,an,cdv,ct,osl,rfl,lk,hcd⟩:=F.ex
 exact .all (h kV doc pm an cdv ct)
theorem Km {x qual:Str}{st:Stmt}{f:Addr}{oc:Value}{od an:Option Addr}{osl:Array (Option Value)}{kV doc pm cdv ct:Value}(l:K.lookup f=some ⟨oc,od,.func (PySem.W.fnOf x qual (C9 st) (Bz st) (Af st) .none kV doc pm an cdv ct),osl⟩)
  (c:PySem.W.codeIn K cdv qual=true) (k:PySem.W.keepIn K (.ref f)=true):Fun K x qual st f (PySem.W.fnOf x qual (C9 st) (Bz st) (Af st) .none kV doc pm an cdv ct):=⟨⟨oc,od,kV,doc,pm,an,cdv,ct,osl,rfl,l,c⟩,k⟩
end
section
variable {X:Cx}
end
def Ah (H H':Hp):Prop:=∀b o,H b=some o→H' b=some o
theorem Ah.refl (H:Hp):Ah H H:=fun _ _ h=>h
theorem Ah.trans {H H1 H2:Hp}(a:Ah H H1)(b:Ah H1 H2):Ah H H2:=fun c o h=>b c o (a c o h)
theorem Ah.seq {K:PySem.W.Frag}{H H':Hp}{a:Addr}{xs:List V}(e:Ah H H')(h:Ay K H a xs):Ay K H' a xs:=by
 rcases h with (h|⟨o,h⟩)|h
 ·exact .inl (.inl (e _ _ h))
 ·exact .inl (.inr ⟨o,e _ _ h⟩)
 ·exact .inr h
end L2
section
namespace L2
open PySem PySem.Spec PyProof.Rows
section
variable {κ:Type}[DecidableEq κ]
def B5 (kvs:List (κ×V))(k:κ):Option V:=(kvs.find? fun kv=>decide (kv.1=k)).map (·.2)
def Cu (kvs:List (κ×V))(k:κ)(v:V):List (κ×V):=
 if (kvs.any fun kv=>decide (kv.1=k))=true then kvs.map (fun kv=>if kv.1=k then (kv.1,v) else kv) else kvs++[(k,v)]
def Fl (kvs:List (κ×V))(k:κ):List (κ×V):=kvs.filter fun kv=>decide (kv.1≠k)
theorem B1 {p:κ×V}{r:List (κ×V)}{k:κ}(e:p.1=k):B5 (p::r) k=some p.2:=by simp [B5,List.find?_cons,e]
theorem Bq {p:κ×V}{r:List (κ×V)}{k:κ}(e:¬p.1=k):B5 (p::r) k=B5 r k:=by simp [B5,List.find?_cons,e]
theorem Gy (k:κ):∀kvs:List (κ×V),(kvs.any fun kv=>decide (kv.1=k))=(B5 kvs k).isSome
 |[]=>rfl
 |p::r=>by
  rw [List.any_cons]
  by_cases e:p.1=k
  ·simp only [B1 e,decide_eq_true e,Bool.true_or,Option.isSome_some]
  ·rw [Bq e,decide_eq_false e,Bool.false_or];exact Gy k r
theorem Si (k j:κ)(y:V):∀kvs:List (κ×V),B5 (kvs.map fun kv=>if kv.1=k then (kv.1,y) else kv) j=(B5 kvs j).map fun x=>if j=k then y else x
 |[]=>rfl
 | p::r=>by
  have ih:=Si k j y r
  rw [List.map_cons]
  by_cases h:p.1=k
  ·rw [if_pos h]
   by_cases e:p.1=j
   ·rw [B1 (p:=(p.1,y)) e,B1 e,Option.map_some,if_pos (e.symm.trans h)]
   ·rw [Bq (p:=(p.1,y)) e,Bq e,ih]
  ·rw [if_neg h]
   by_cases e:p.1=j
   ·rw [B1 (p:=p) e,B1 e,Option.map_some,if_neg (fun z=>h (e.trans z))]
   ·rw [Bq (p:=p) e,Bq e,ih]
theorem Ph (k j:κ)(y:V):∀kvs:List (κ×V),B5 kvs k=none→B5 (kvs++[(k,y)]) j=if j=k then some y else B5 kvs j
 |[],_=>by
  by_cases e:k=j
  ·rw [if_pos e.symm];exact B1 (p:=(k,y)) e
  ·rw [if_neg (fun z=>e z.symm)];exact Bq (p:=(k,y)) e
 |p::r,hn=>by
  rw [List.cons_append]
  have hk:¬p.1=k:=fun z=>by rw [B1 z] at hn;cases hn
  rw [Bq hk] at hn
  have ih:=Ph k j y r hn
  by_cases e:p.1=j
  ·rw [B1 e,B1 e,if_neg (fun z=>hk (e.trans z))]
  ·rw [Bq e,Bq e,ih]
theorem El (kvs:List (κ×V))(k j:κ)(y:V):B5 (Cu kvs k y) j=if j=k then some y else B5 kvs j:=by
 unfold Cu
 by_cases a:(kvs.any fun kv=>decide (kv.1=k))=true
 ·rw [if_pos a,Si]
  rw [Gy] at a
  by_cases e:j=k
  ·obtain ⟨x,hx⟩:=Option.isSome_iff_exists.mp a
   rw [if_pos e,e,hx,Option.map_some,if_pos rfl]
  ·rw [if_neg e]
   cases B5 kvs j with
   |none=>rfl
   |some x=>rw [Option.map_some,if_neg e]
 ·rw [if_neg a]
  refine Ph k j y kvs ?_
  rw [Gy] at a
  cases q:B5 kvs k with
  |none=>rfl
  |some x=>rw [q] at a;exact (a rfl).elim
theorem Cy (kvs:List (κ×V))(k:κ)(v:V):(Cu kvs k v).length≤kvs.length+1:=by
 unfold Cu
 split
 ·rw [List.length_map];omega
 ·rw [List.length_append,List.length_cons,List.length_nil];omega
theorem Sk {kvs:List (κ×V)}{k:κ}(v:V)(h:B5 kvs k=none):Cu kvs k v=kvs++[(k,v)]:=by
 unfold Cu
 rw [Gy,h]
 exact if_neg (by decide)
theorem F5.isSome_eq {o:Option V}{u:Option Value}(r:F5 o u):o.isSome=u.isSome:=by
 cases o with
 |none=>cases u with
  |none=>rfl
  |some _=>exact (show False from r).elim
 |some _=>cases u with
  |none=>exact (show False from r).elim
  |some _=>rfl
theorem F5.getD {o:Option V}{u:Option Value}{d:V}{d':Value}(r:F5 o u)(rd:RelV d d'):RelV (o.getD d) (u.getD d'):=by
 cases o with
 |none=>cases u with
  |none=>exact rd
  |some _=>exact (show False from r).elim
 |some _=>cases u with
  |none=>exact (show False from r).elim
  |some _=>exact r
theorem KV.val {kvs:List (κ×V)}{vs:List (κ×Value)}(r:KV kvs vs)(k:κ):F5 (B5 kvs k) (valueAt vs k):=by
 unfold KV at r
 induction r with
 |nil=>exact True.intro
 | @cons p q ps qs h t ih=>
  obtain ⟨h1,h2⟩:=h
  by_cases e:p.1=k
  ·have e':q.1=k:=h1.symm.trans e
   have b:valueAt (q::qs) k=some q.2:=by simp [valueAt,List.find?_cons,e']
   rw [B1 e,b];exact h2
  ·have e':¬q.1=k:=fun z=>e (h1.trans z)
   have b:valueAt (q::qs) k=valueAt qs k:=by simp [valueAt,List.find?_cons,e']
   rw [Bq e,b];exact ih
theorem KV.any {kvs:List (κ×V)}{vs:List (κ×Value)}(r:KV kvs vs)(k:κ):(kvs.any fun kv=>decide (kv.1=k))=vs.any fun kv=>decide (kv.1=k):=by
 unfold KV at r
 induction r with
 |nil=>rfl
 |cons h t ih=>rw [List.any_cons,List.any_cons,ih,h.1]
theorem KV.repl {kvs:List (κ×V)}{vs:List (κ×Value)}(r:KV kvs vs)(k:κ){y:V}{u:Value}(ry:RelV y u) :
  KV (kvs.map fun kv=>if kv.1=k then (kv.1,y) else kv) (vs.map fun kv=>if kv.1=k then (kv.1,u) else kv):=by
 unfold KV at r ⊢
 induction r with
 |nil=>exact .nil
 |@cons p q ps qs h t ih=>
  rw [List.map_cons,List.map_cons]
  refine .cons ?_ ih
  obtain ⟨h1,h2⟩:=h
  by_cases e:p.1=k
  ·rw [if_pos e,if_pos (h1.symm.trans e)];exact ⟨h1,ry⟩
  ·rw [if_neg e,if_neg (fun z=>e (h1.trans z))];exact ⟨h1,h2⟩
theorem KV.put {kvs:List (κ×V)}{vs:List (κ×Value)}(r:KV kvs vs)(k:κ){y:V}{u:Value}(ry:RelV y u):KV (Cu kvs k y) (stored vs k u):=by
 unfold Cu stored
 rw [r.any k]
 by_cases e:(vs.any fun kv=>decide (kv.1=k))=true
 ·rw [if_pos e,if_pos e];exact r.repl k ry
 ·rw [if_neg e,if_neg e];exact Paired.snoc r ⟨rfl,ry⟩
theorem KV.drop {kvs:List (κ×V)}{vs:List (κ×Value)}(r:KV kvs vs)(k:κ):KV (Fl kvs k) (without vs k):=by
 unfold KV at r ⊢
 unfold Fl without
 induction r with
 |nil=>exact .nil
 | @cons p q ps qs h t ih=>
  obtain ⟨h1,h2⟩:=h
  rw [List.filter_cons,List.filter_cons]
  by_cases e:p.1=k
  ·have a:¬decide (p.1≠k)=true:=by simp [e]
   have b:¬decide (q.1≠k)=true:=by simp [h1.symm.trans e]
   rw [if_neg a,if_neg b];exact ih
  ·have e':¬q.1=k:=fun z=>e (h1.trans z)
   have a:decide (p.1≠k)=true:=by simp [e]
   have b:decide (q.1≠k)=true:=by simp [e']
   rw [if_pos a,if_pos b];exact .cons ⟨h1,h2⟩ ih
theorem KV.keys {kvs:List (κ×V)}{vs:List (κ×Value)}(r:KV kvs vs):kvs.map (·.1)=vs.map (·.1):=by
 unfold KV at r
 induction r with
 |nil=>rfl
 |cons h t ih=>rw [List.map_cons,List.map_cons,ih,h.1]
theorem KV.length {kvs:List (κ×V)}{vs:List (κ×Value)}(r:KV kvs vs):kvs.length=vs.length:=Paired.length r
theorem Ab9 (kvs:List (κ×V))(k:κ):(Fl kvs k).length≤kvs.length:=List.length_filter_le _ _
end
theorem Ov {P:Program}{w:World}{k:B4}{u:Value}(r:RelV (kV k) u):(A9 P w).is k u=true:=by
 cases k with
 |inl i=>obtain ⟨t,e⟩:=(show ∃t,u=Value.int i t from r);subst e;exact Sf P w i t
 |inr x=>obtain ⟨t,e⟩:=(show ∃t,u=Value.str x t from r);subst e;exact Tu P w x t
theorem Ow {P:Program}{w:World}:∀{ks:List B4} {us:List Value},A4 (ks.map kV) us→ItemsAre (A9 P w) ks us
 |[],_,r=>by rw [List.map_nil] at r;cases r;exact .nil
 |k::ks,_,r=>by
  rw [List.map_cons] at r
  cases r with
  |cons h t=>exact .cons (Ov h) (Ow t)
abbrev KT (H:Hp):List (List B4×V)→List (List B4×Addr×Value)→Prop:=Paired fun p q=>p.1=q.1∧H q.2.1=some (.tup (p.1.map kV))∧RelV p.2 q.2.2
theorem KT.val {H:Hp}{kvs:List (List B4×V)}{xs:List (List B4×Addr×Value)}(r:KT H kvs xs)(k:List B4):F5 (B5 kvs k) ((atKey xs k).map (·.2)):=by
 induction r with
 |nil=>exact True.intro
 | @cons p q ps qs h t ih=>
  obtain ⟨h1,_,h2⟩:=h
  by_cases e:p.1=k
  ·have e':q.1=k:=h1.symm.trans e
   have b:atKey (q::qs) k=some q.2:=by simp [atKey,List.find?_cons,e']
   rw [B1 e,b];exact h2
  ·have e':¬q.1=k:=fun z=>e (h1.trans z)
   have b:atKey (q::qs) k=atKey qs k:=by simp [atKey,List.find?_cons,e']
   rw [Bq e,b];exact ih
theorem KT.repl {H:Hp}{kvs:List (List B4×V)}{xs:List (List B4×Addr×Value)}(r:KT H kvs xs)(k:List B4){y:V}{u:Value}(ry:RelV y u) :
  KT H (kvs.map fun kv=>if kv.1=k then (kv.1,y) else kv) (xs.map (putAt k u)):=by
 induction r with
 |nil=>exact .nil
 |@cons p q ps qs h t ih=>
  rw [List.map_cons,List.map_cons]
  refine .cons ?_ ih
  obtain ⟨h1,h2,h3⟩:=h
  unfold putAt
  by_cases e:p.1=k
  ·rw [if_pos e,if_pos (h1.symm.trans e)];exact ⟨h1,h2,ry⟩
  ·rw [if_neg e,if_neg (fun z=>e (h1.trans z))];exact ⟨h1,h2,h3⟩
theorem KT.put {H:Hp}{kvs:List (List B4×V)}{xs:List (List B4×Addr×Value)}(r:KT H kvs xs)(k:List B4){b:Addr}{y:V}{u:Value}(hb:H b=some (.tup (k.map kV)))(ry:RelV y u) :
  KT H (Cu kvs k y) (storedH xs k b u):=by
 have e:(kvs.any fun kv=>decide (kv.1=k))=(atKey xs k).isSome:=by
  rw [Gy,(r.val k).isSome_eq,Option.isSome_map]
 unfold Cu storedH
 rw [e]
 by_cases q:(atKey xs k).isSome=true
 ·rw [if_pos q,if_pos q];exact r.repl k ry
 ·rw [if_neg q,if_neg q];exact Paired.snoc r ⟨rfl,hb,ry⟩
theorem KT.keeps {H H':Hp}{kvs:List (List B4×V)}{xs:List (List B4×Addr×Value)}(r:KT H kvs xs)(ht:∀b ys,H b=some (.tup ys)→H' b=some (.tup ys)):KT H' kvs xs:=
 Paired.mapP r fun _ _ z=>⟨z.1,ht _ _ z.2.1,z.2.2⟩
section
variable {P:Program}{w:World}{H:Hp}{h:Heap}{a:Addr}
theorem Aet {u:HO}(ok:Hl P w H h)(e:Rd H a u):Bb P w H h a u:=e.ok ok
theorem Lz {kvs:List (B4×V)}(ok:Hl P w H h)(e:Rd H a (.dK kvs)):kvs.length≤sizeLine∧(a==sysModules)=false∧∃vs,KV kvs vs∧h.DictOf (A9 P w) a vs:=
 show Bb P w H h a (.dK kvs) from Aet ok e
theorem W5 {kvs:List (B4×V)}(ok:Hl P w H h)(e:H a=some (.dK kvs)):kvs.length≤sizeLine∧(a==sysModules)=false∧∃vs,KV kvs vs∧h.DictOf (A9 P w) a vs:=Lz ok (.inl e)
theorem Mj {ks:List B4}(ok:Hl P w H h)(e:H a=some (.tup (ks.map kV))):(tupleKind (A9 P w)).is h ks a:=by
 obtain ⟨_,its,r,o,h1,h2,n,h3⟩:=(show Bb P w H h a (.tup (ks.map kV)) from ok a _ e)
 exact ⟨o,its.toArray,n,h1,h2,h3,by simpa using Ow r⟩
theorem Oz {kvs:List (List B4×V)}(ok:Hl P w H h)(e:Rd H a (.dT kvs)):kvs.length≤sizeLine∧(a==sysModules)=false ∧
  ∃xs,KT H kvs xs∧h.DictOfH (tupleKind (A9 P w)) a xs:=by
 obtain ⟨z,y,xs,r,o,es,ep,h1,h2,h3,h4,h5⟩:=(show Bb P w H h a (.dT kvs) from Aet ok e)
 refine ⟨z,y,xs,r,o,es,ep,h1,h2,h3,h4,fun x hx=>?_,h5⟩
 have all:∀{l:List (List B4×V)} {m:List (List B4×Addr×Value)},KT H l m→∀x∈m,(tupleKind (A9 P w)).is h x.1 x.2.1:=by
  intro l m q
  induction q with
  |nil=>intro x hx;exact nomatch hx
  | @cons p q ps qs hq t ih=>
   intro x hx
   rcases List.mem_cons.mp hx with e|hx
   ·subst e
    exact Mj ok (by rw [←hq.1];exact hq.2.1)
   ·exact ih x hx
 exact all r x hx
theorem Ajr {kvs:List (List B4×V)}(ok:Hl P w H h)(e:H a=some (.dT kvs)):kvs.length≤sizeLine∧(a==sysModules)=false ∧
  ∃xs,KT H kvs xs∧h.DictOfH (tupleKind (A9 P w)) a xs:=Oz ok (.inl e)
end
def Fm (H:Hp)(a:Addr)(y:V)(r:Option V):Prop:=
 (∃kvs k,Rd H a (.dK kvs)∧y=kV k∧r=B5 kvs k)∨∃kvs k b,Rd H a (.dT kvs)∧y=.ref b∧H b=some (.tup (k.map kV))∧r=B5 kvs k
def Q7 (H:Hp)(a:Addr)(y v:V)(H':Hp):Prop:=
 (∃kvs k,H a=some (.dK kvs)∧y=kV k∧kvs.length<sizeLine∧H'=upd H a (.dK (Cu kvs k v))) ∨
 ∃kvs k b,H a=some (.dT kvs)∧y=.ref b∧H b=some (.tup (k.map kV))∧kvs.length<sizeLine∧H'=upd H a (.dT (Cu kvs k v))
theorem Fm.k {H:Hp}{a:Addr}{kvs:List (B4×V)}{k:B4}(e:H a=some (.dK kvs)):Fm H a (kV k) (B5 kvs k):=.inl ⟨kvs,k,.inl e,rfl,rfl⟩
theorem Q7.k {H:Hp}{a:Addr}{kvs:List (B4×V)}{k:B4}{v:V}(e:H a=some (.dK kvs))(hl:kvs.length<sizeLine):Q7 H a (kV k) v (upd H a (.dK (Cu kvs k v))):=.inl ⟨kvs,k,e,rfl,hl,rfl⟩
section
variable {X:Cx}{pins:List (Addr×Obj)}{σ:St}{H:Hp}{s:Shared}{a:Addr}{y v:V}{u r:Value}{o:Option V}{A:Around}{E:Value→Shared→Prop}
theorem Ar.big (I:Ar X pins σ H s):sysModules<s.heap.objs.size:=by
 have h:mainGlobals<s.heap.objs.size:=(I.mod.glob.keeps I.bk).lt
 exact Nat.lt_trans (by decide) h
theorem X5 {Q:Value→Shared→Prop}(hu:A.units+1<cLine)(I:Ar X pins σ H s)(g:Fm H a y (some v))(ry:RelV y u)(h:∀w' s',Ar X pins σ H s'→RelV v w'→Q w' s') :
  wpAny (model X.prog X.w) A (getItem (.ref a) u) Q E s:=by
 rcases g with ⟨kvs,k,e,ey,l⟩|⟨kvs,k,b,e,ey,eb,l⟩
 ·subst ey
  obtain ⟨z,hd,vs,rel,dd⟩:=Lz I.hok e
  obtain ⟨w',hw,rw'⟩:=F5.some_of (v:=v) (o:=valueAt vs k) (by rw [l];exact rel.val k)
  exact wpAny_getItem_of (Ov ry) dd.mapOf hw (h w' _ (I.tok _) rw')
 ·subst ey
  cases (show u=Value.ref b from ry)
  obtain ⟨z,hd,xs,rel,dd⟩:=Oz I.hok e
  obtain ⟨w',hw,rw'⟩:=F5.some_of (v:=v) (o:=(atKey xs k).map (·.2)) (by rw [l];exact rel.val k)
  obtain ⟨p,hp,hp2⟩:=Option.map_eq_some_iff.mp hw
  refine wpAny_getItem_heap (tupleKind_room_in1 hu) (Mj I.hok eb) dd hp ?_
  rw [hp2]
  exact h w' _ (I.tok _) rw'
theorem Adi {Q:Value→Shared→Prop}(hu:A.units+1<cLine)(I:Ar X pins σ H s)(g:Fm H a y o)(ry:RelV y u)(h:∀s',Ar X pins σ H s'→Q (.bool (!o.isSome)) s') :
  wpAny (model X.prog X.w) A (compareOp .NotIn u (.ref a)) Q E s:=by
 rcases g with ⟨kvs,k,e,ey,l⟩|⟨kvs,k,b,e,ey,eb,l⟩
 ·subst ey
  obtain ⟨z,hd,vs,rel,dd⟩:=Lz I.hok e
  refine wpAny_notIn_of (Ov ry) hd dd.mapOf ?_
  rw [←(rel.val k).isSome_eq,←l]
  exact h _ (I.tok _)
 ·subst ey
  cases (show u=Value.ref b from ry)
  obtain ⟨z,hd,xs,rel,dd⟩:=Oz I.hok e
  refine wpAny_notIn_heap (tupleKind_room_in1 hu) (Mj I.hok eb) hd dd ?_
  have q:=(rel.val k).isSome_eq
  rw [Option.isSome_map] at q
  rw [←q,←l]
  exact h _ (I.tok _)
theorem Rt {h':Heap}{t':Nat}{ob:HO}(I:Ar X pins σ H s)(mu:Mut (H a))(hs:Heap.SameBut a s.heap h')(he:∃q,h'.get? a=some q)(new:Bb X.prog X.w (upd H a ob) h' a ob) :
  Ar X pins σ (upd H a ob) { s with heap:=h',toks:=t' } :=
 I.write (x:=a) (e:=a) mu (.inl rfl) (fun b q hb z=>(hs.2 b hb).trans z) he new
theorem Aag {P:Program}{w:World}{H':Hp}{h':Heap}{kvs:List (B4×V)}{vs:List (B4×Value)}(z:kvs.length≤sizeLine)(hd:(a==sysModules)=false)(rel:KV kvs vs)(dd:h'.DictOf (A9 P w) a vs) :
  Bb P w H' h' a (.dK kvs):=⟨z,hd,vs,rel,dd⟩
theorem Yz {H':Hp}{Q:Unit→Shared→Prop}(hu:A.units+1<cLine)(I:Ar X pins σ H s)(g:Q7 H a y v H')(ry:RelV y u)(rv:RelV v r)(h:∀s',Ar X pins σ H' s'→Q () s') :
  wpAny (model X.prog X.w) A (setItem (.ref a) u r) Q E s:=by
 rcases g with ⟨kvs,k,e,ey,l,eH⟩|⟨kvs,k,b,e,ey,eb,l,eH⟩
 ·subst ey eH
  obtain ⟨z,hd,vs,rel,dd⟩:=W5 I.hok e
  have hz:vs.length≤sizeLine:=by rw [←rel.length];exact z
  have hl:(Cu kvs k v).length≤sizeLine:=by have:=Cy kvs k v;omega
  refine wpAny_setItem_pairs (hsz:=hz) (Ov ry) dd fun h' dd' hs=>h _ ?_
  have he:∃q,h'.get? a=some q:=let ⟨q,_,_,hq,_⟩:=dd';⟨q,hq⟩
  exact Rt I (by rw [e];exact True.intro) hs he (Aag hl hd (rel.put k rv) dd')
 ·subst ey eH
  cases (show u=Value.ref b from ry)
  obtain ⟨z,hd,xs,rel,dd⟩:=Ajr I.hok e
  have hz:xs.length≤sizeLine:=by rw [←Paired.length rel];exact z
  have hl:(Cu kvs k v).length≤sizeLine:=by have:=Cy kvs k v;omega
  refine wpAny_setItem_heap (hsz:=hz) (tupleKind_room_in1 hu) (Mj I.hok eb) dd fun h' dd' hs=>h _ ?_
  obtain ⟨q,es,ep,hq,h2,h3,h4,_,h5⟩:=dd'
  refine Rt I (by rw [e];exact True.intro) hs ⟨q,hq⟩ ⟨hl,hd,_,(rel.put k eb rv).keeps fun c ys ec=>?_,q,es,ep,hq,h2,h3,h4,h5⟩
  rw [Ak (Aj3 ec e (fun z=>nomatch z))]
  exact ec
end
section
variable {X:Cx}{pins:List (Addr×Obj)}{σ:St}{H:Hp}{s:Shared}{a:Addr}{kvs:List (B4×V)}{k:B4}{u:Value}{A:Around}{E:Value→Shared→Prop}
theorem Ajw {v:V}{more:List Value}{Q:Value→Shared→Prop}(I:Ar X pins σ H s)(e:H a=some (.dK kvs))(ry:RelV (kV k) u)(l:B5 kvs k=some v)(hm:more=[]∨∃x,more=[x])
  (h:∀w' s',Ar X pins σ (upd H a (.dK (Fl kvs k))) s'→RelV v w'→Q w' s'):wpAny (model X.prog X.w) A (call (.builtin "dict.pop") (.ref a::u::more)) Q E s:=by
 obtain ⟨z,hd,vs,rel,dd⟩:=W5 I.hok e
 obtain ⟨w',hw,rw'⟩:=F5.some_of (v:=v) (o:=valueAt vs k) (by rw [←l];exact rel.val k)
 have hp:(keyPart u).isSome=true:=by
  cases k with
  |inl i=>obtain ⟨t,q⟩:=(show ∃t,u=Value.int i t from ry);subst q;rfl
  |inr x=>obtain ⟨t,q⟩:=(show ∃t,u=Value.str x t from ry);subst q;rfl
 have ha:argsOk "dict.pop" ⟨.ref a::u::more,[]⟩:=by
  rcases hm with q|⟨x,q⟩
  ·subst q;exact PySem.F.args_dict_pop_2 _ _
  ·subst q;exact PySem.F.args_dict_pop_3 _ _ _
 refine call_meetsIn PySem.F.slot_dict_pop dd.typeIs PySem.F.entry_dict_pop ha (meets_dict_pop_there (A9 X.prog X.w) a (Ov ry) more hm hp)
  ⟨vs,w',dd,by rw [←rel.length];exact z,hw,fun h' dd' hs=>h w' _ ?_ rw'⟩
 have he:∃q,h'.get? a=some q:=let ⟨q,_,_,hq,_⟩:=dd';⟨q,hq⟩
 exact Rt I (by rw [e];exact True.intro) hs he (Aag (Nat.le_trans (Ab9 kvs k) z) hd (rel.drop k) dd')
end
def Akd (i:Expr):Prop:=∀ov iv,subscripted i false ov iv=operate [ov,iv] (getItem ov iv)
theorem Ac5 {prog:Program}{w:World}{A:Around}{E:Value→Shared→Prop}{s:Shared}{env:Env}{value slice:Expr}{pos:Pos}{T id:String}{Q:Value→Shared→Prop}
  (hl:typeLookup (.type T) "__getitem__"=pure (some (.builtin id))) (hs:Akd slice)
  (h:wpAny (model prog w) A (eval value env) (fun o s₁=>wpAny (model prog w) A (eval slice env) (fun i s₂=>s₂.TypeIs o T∧wpAny (model prog w) A (getItem o i) Q E s₂) E s₁) E s) :
  wpAny (model prog w) A (eval (.Subscript value slice pos) env) Q E s:=by
 refine Subscript_ (wpAny_mono h (fun o s₁ h₁=>wpAny_mono h₁ (fun i s₂ h₂=>?_) fun _ _ x=>x) fun _ _ x=>x)
 obtain ⟨hT,h₂⟩:=h₂
 unfold subscriptTail
 refine wpAny_bind ?_
 rw [getitemInPython_of_ne hT.not_modules]
 refine wpAny_bind (wpAny_specialOf hT hl ?_)
 have fin:wpAny (model prog w) A (subscripted slice false o i) (fun r s₃=>wpAny (model prog w) A (letTemporaryGo value o r >>= fun _=>pure r) Q E s₃) E s₂:=by
  rw [hs o i]
  exact wpAny_operating (wpAny_mono h₂ (fun r s₃ h₃=>wpAny_bind (wpAny_letTemporaryGo (wpAny_pure h₃))) fun _ _ x=>x)
 first
  |exact wpAny_pure (wpAny_bind fin)
  |exact wpAny_bind (wpAny_pure (wpAny_bind fin))
  |exact wpAny_bind fin
theorem To {X:Cx}{pins:List (Addr×Obj)}{σ:St}{H:Hp}{s:Shared}{a:Addr}{y:V}{o:Option V}(I:Ar X pins σ H s)(g:Fm H a y o):s.TypeIs (.ref a) "dict":=by
 rcases g with ⟨kvs,k,e,_,_⟩|⟨kvs,k,b,e,_,_,_⟩
 ·obtain ⟨_,_,vs,_,dd⟩:=Lz I.hok e
  exact dd.typeIs
 ·obtain ⟨_,_,xs,_,dd⟩:=Oz I.hok e
  exact dd.typeIs
def Aky (td ty:TE):TE:=fun σ H Q=>td σ H fun x H1=>ty σ H1 fun y H2=>∃a v,x=.ref a∧Fm H2 a y (some v)∧Q v H2
def V0 (ty td:TE):TE:=fun σ H Q=>ty σ H fun y H1=>td σ H1 fun x H2=>∃a o,x=.ref a∧Fm H2 a y o∧Q (.bl (!o.isSome)) H2
def Ajj (td ty tv:TE):TS:=fun D σ H=>tv σ H fun v H1=>td σ H1 fun x H2=>ty σ H2 fun y H3=>∃a H4,x=.ref a∧Q7 H3 a y v H4∧D.nx σ H4
section
variable {X:Cx}{o i e value:Expr}{pos pos' tpos:Pos}{td ty tv:TE}
theorem Ha (hu:X.A.units+1<cLine)(ho:PE X o td)(hi:PE X i ty)(hs:Akd i):PE X (.Subscript o i pos) (Aky td ty):=by
 intro pins s σ H Q I h
 refine Ac5 PySem.F.slot_dict_getitem.lookup hs (thn (ho pins s σ H _ I h) fun u s1 ⟨x,H1,I1,rx,q1⟩=>thn (hi pins s1 σ H1 _ I1 q1) fun iv s2 ⟨y,H2,I2,ry,a,v,ex,g,q2⟩=>?_)
 subst ex
 obtain rfl:u=Value.ref a:=rx
 exact ⟨To I2 g,X5 hu I2 g ry fun w' s3 I3 rw'=>⟨v,H2,I3,rw',q2⟩⟩
theorem Y0 (hu:X.A.units+1<cLine)(hi:PE X i ty)(ho:PE X o td):PC X .NotIn i o (V0 ty td):=by
 intro pins s σ H Q I h
 refine thn (hi pins s σ H _ I h) fun iv s1 ⟨y,H1,I1,ry,q1⟩=>thn (ho pins s1 σ H1 _ I1 q1) fun u s2 ⟨x,H2,I2,rx,a,ov,ex,g,q2⟩=>?_
 subst ex
 obtain rfl:u=Value.ref a:=rx
 exact Adi hu I2 g ry fun s3 I3=>⟨.bl (!ov.isSome),H2,I3,rfl,q2⟩
theorem Je (hu:X.A.units+1<cLine)(ho:PE X o td)(hi:PE X i ty)(hv:PE X value tv)(hs:swapsWith value (some (.Subscript o i pos')) pos.line X.env=pure false) :
  PS X (.Assign [.Subscript o i pos'] value pos) (Ajj td ty tv):=by
 intro pins s σ H D I h
 refine wpAny_Assign_Subscript (thn (hv pins s σ H _ I h) fun r s1 ⟨v,H1,I1,rv,q1⟩=>thn (ho pins s1 σ H1 _ I1 q1) fun u s2 ⟨x,H2,I2,rx,q2⟩=>thn (hi pins s2 σ H2 _ I2 q2) fun iv s3 ⟨y,H3,I3,ry,a,H4,ex,g,q3⟩=>?_) hs
 subst ex
 obtain rfl:u=Value.ref a:=rx
 exact Yz hu I3 g ry rv fun s4 I4=>⟨σ,H4,I4,q3⟩
end
theorem Ab3 {P:Program}{w:World}{H:Hp}(h:Heap)(hb:sysModules<h.objs.size):Bb P w H (h.push { cls:=.type "dict",data:=.dict #[] }) h.objs.size (.dK []):=
 ⟨Nat.zero_le _,beq_eq_false_iff_ne.mpr (Ne.symm (Nat.ne_of_lt hb)),[],.nil,Heap.DictOf.new h⟩
def Aht:TE:=fun _ H Q=>∀p,H p=none→Q (.ref p) (upd H p (.dK []))
section
variable {X:Cx}{pos:Pos}
theorem Gr:PE X (.Dict [] [] pos) Aht:=fun pins s σ H Q I h=>
 wpAny_Dict_empty ⟨.ref s.heap.objs.size,_,I.laid (a:=s.heap.objs.size) (o:=.dK []) (t':=s.toks) (fun _ _ q=>Heap.get?_push_of_some _ q) (Nat.le_refl _) (Ab3 s.heap I.big),rfl,h _ (I.hok.fresh (Nat.le_refl _))⟩
end
structure M1 (X:Cx)(o:Expr)(m:Str)(apos:Pos)(e:Expr)(cpos:Pos):Prop where
 base:attributeBase o m X.env (eval o X.env)=eval o X.env
 few:((backTo cpos (starEach [e] X.env)).all (fun x=>!x.1)&&(backToKw cpos (keywordEach [] X.env)).all (fun x=>x.1.isSome)
  && decide (([e]:List Expr).length+([]:List Keyword).length+(if ([]:List Keyword).isEmpty then 0 else 1)<30))=true
 line:(apos.endLine==cpos.line)=true
 trees:backTo cpos (starEach [e] X.env)=[(false,eval e X.env)]
structure M2 (X:Cx)(o:Expr)(m:Str)(apos:Pos)(e f:Expr)(cpos:Pos):Prop where
 base:attributeBase o m X.env (eval o X.env)=eval o X.env
 few:((backTo cpos (starEach [e,f] X.env)).all (fun x=>!x.1)&&(backToKw cpos (keywordEach [] X.env)).all (fun x=>x.1.isSome)
  && decide (([e,f]:List Expr).length+([]:List Keyword).length+(if ([]:List Keyword).isEmpty then 0 else 1)<30))=true
 line:(apos.endLine==cpos.line)=true
 trees:backTo cpos (starEach [e,f] X.env)=[(false,eval e X.env),(false,eval f X.env)]
def IsD (H:Hp)(a:Addr):Prop:=(∃kvs,Rd H a (.dK kvs))∨∃kvs,Rd H a (.dT kvs)
theorem U5 {X:Cx}{pins:List (Addr×Obj)}{σ:St}{H:Hp}{s:Shared}{a:Addr}(I:Ar X pins σ H s)(d:IsD H a) :
  s.TypeIs (.ref a) "dict"∧(∀b,Value.ref a=.ref b→∃ob,s.heap.get? b=some ob∧ob.dict=none)∧(a==sysModules)=false:=by
 rcases d with ⟨kvs,e⟩|⟨kvs,e⟩
 ·obtain ⟨_,hd,vs,_,dd⟩:=Lz I.hok e
  refine ⟨dd.typeIs,fun b q=>?_,hd⟩
  cases q
  obtain ⟨ob,_,_,h1,h2,_⟩:=dd
  exact ⟨ob,h1,h2.2.1⟩
 ·obtain ⟨_,hd,xs,_,dd⟩:=Oz I.hok e
  refine ⟨dd.typeIs,fun b q=>?_,hd⟩
  cases q
  obtain ⟨ob,_,_,h1,h2,_⟩:=dd
  exact ⟨ob,h1,h2.2.1⟩
section
variable {X:Cx}{pins:List (Addr×Obj)}{σ:St}{H:Hp}{s:Shared}{a:Addr}{y d:V}{u r:Value}{o:Option V}{A:Around}{E:Value→Shared→Prop}
theorem Ahp {Q:Value→Shared→Prop}(hu:A.units+1<cLine)(I:Ar X pins σ H s)(g:Fm H a y o)(ry:RelV y u)(rd:RelV d r)(h:∀w' s',Ar X pins σ H s'→RelV (o.getD d) w'→Q w' s') :
  wpAny (model X.prog X.w) A (call (.builtin "dict.get") [.ref a,u,r]) Q E s:=by
 rcases g with ⟨kvs,k,e,ey,l⟩|⟨kvs,k,b,e,ey,eb,l⟩
 ·subst ey
  obtain ⟨z,hd,vs,rel,dd⟩:=Lz I.hok e
  refine call_meetsIn PySem.F.slot_dict_get dd.typeIs PySem.F.entry_dict_get (PySem.F.args_dict_get_3 _ _ _) (meets_dict_get_default (A9 X.prog X.w) a (Ov ry) hd r) ⟨_,dd.mapOf,h _ _ (I.tok _) ?_⟩
  rw [l]
  exact (rel.val k).getD rd
 ·subst ey
  cases (show u=Value.ref b from ry)
  obtain ⟨z,hd,xs,rel,dd⟩:=Oz I.hok e
  refine call_meetsIn PySem.F.slot_dict_get dd.typeIs PySem.F.entry_dict_get (PySem.F.args_dict_get_3 _ _ _) (meetsH_dict_get_default (tupleKind (A9 X.prog X.w)) a b hd r) ⟨tupleKind_room_in1 hu,k,xs,Mj I.hok eb,dd,h _ _ (I.tok _) ?_⟩
  rw [l]
  exact (rel.val k).getD rd
end
def Aif (td ty tx:TE):TE:=fun σ H Q=>td σ H fun x H1=>∃a,x=.ref a∧IsD H1 a∧ty σ H1 fun y H2=>tx σ H2 fun z H3=>∃o,Fm H3 a y o∧Q (o.getD z) H3
def Ag5 (td ty:TE):TE:=fun σ H Q=>td σ H fun x H1=>∃a,x=.ref a∧IsD H1 a∧ty σ H1 fun y H2=>∃kvs k v,H2 a=some (.dK kvs)∧y=kV k∧B5 kvs k=some v∧Q v (upd H2 a (.dK (Fl kvs k)))
section
variable {X:Cx}{o e f:Expr}{apos cpos:Pos}{td ty tx:TE}
theorem Gx (hu:X.A.units+1<cLine)(ho:PE X o td)(he:PE X e ty)(hf:PE X f tx)(m:M2 X o "get" apos e f cpos):PE X (.Call (.Attribute o "get" apos) [e,f] [] cpos) (Aif td ty tx):=by
 intro pins s σ H Q I h
 refine wpAny_Call_method m.base m.few m.line PySem.F.plainAttrs_dict PySem.F.slot_dict_get PySem.F.type_dict_get (thn (ho pins s σ H _ I h) fun u s1 ⟨x,H1,I1,rx,a,ex,d,q1⟩=>?_)
 subst ex
 obtain rfl:u=Value.ref a:=rx
 obtain ⟨t1,t2,_⟩:=U5 I1 d
 refine ⟨t1,t2,?_⟩
 rw [m.trees]
 refine Calls.callWith_builtin rfl (Calls.evalArgs_plain (Calls.spliced_cons (thn (he pins s1 σ H1 _ I1 q1) fun iv s2 ⟨y,H2,I2,ry,q2⟩=>
  Calls.spliced_cons (thn (hf pins s2 σ H2 _ I2 q2) fun fv s3 ⟨z,H3,I3,rz,ov,g,q3⟩=>Calls.spliced_nil ?_))))
 exact Ahp hu I3 g ry rz fun w' s4 I4 rw'=>⟨_,H3,I4,rw',q3⟩
theorem Aak (ho:PE X o td)(he:PE X e ty)(m:M1 X o "pop" apos e cpos):PE X (.Call (.Attribute o "pop" apos) [e] [] cpos) (Ag5 td ty):=by
 intro pins s σ H Q I h
 refine wpAny_Call_method m.base m.few m.line PySem.F.plainAttrs_dict PySem.F.slot_dict_pop PySem.F.type_dict_pop (thn (ho pins s σ H _ I h) fun u s1 ⟨x,H1,I1,rx,a,ex,d,q1⟩=>?_)
 subst ex
 obtain rfl:u=Value.ref a:=rx
 obtain ⟨t1,t2,_⟩:=U5 I1 d
 refine ⟨t1,t2,?_⟩
 rw [m.trees]
 refine Calls.callWith_builtin rfl (Calls.evalArgs_plain (Calls.spliced_cons (thn (he pins s1 σ H1 _ I1 q1) fun iv s2 ⟨y,H2,I2,ry,kvs,k,v,ea,ey,l,q2⟩=>Calls.spliced_nil ?_)))
 subst ey
 exact Ajw I2 ea ry l (.inl rfl) fun w' s3 I3 rw'=>⟨v,_,I3,rw',q2⟩
end
section
variable {X:Cx}{pins:List (Addr×Obj)}{σ:St}{H:Hp}{s:Shared}{a:Addr}{kvs:List (B4×V)}{A:Around}{E:Value→Shared→Prop}
end
section
variable {X:Cx}{pins:List (Addr×Obj)}{σ:St}{H:Hp}{s:Shared}{a:Addr}{y:V}{u:Value}{A:Around}{E:Value→Shared→Prop}
end
end L2
namespace L2
open PySem PySem.Spec PyProof.Rows
section
variable {X:Cx}
end
section
variable {κ:Type}[DecidableEq κ]
end
end L2
end
section
namespace Lw
open PySem PySem.Spec PyProof.Rows L2
theorem R8 {P:Program}{w:World}{H:Hp}{h:Heap}{a:Addr}{o:HO}(x:Bb P w H h a o):∃u,h.get? a=some u:=by
 cases o with
 |lst xs=>obtain ⟨_,_,_,_,e⟩:=x;exact ⟨_,e⟩
 |tup xs=>obtain ⟨_,_,_,o,e,_⟩:=x;exact ⟨_,e⟩
 |dK kvs=>obtain ⟨_,_,_,_,o,_,_,e,_⟩:=x;exact ⟨_,e⟩
 |dT kvs=>obtain ⟨_,_,_,_,o,_,_,e,_⟩:=x;exact ⟨_,e⟩
 |set S n=>obtain ⟨o,_,_,_,e,_⟩:=x;exact ⟨_,e⟩
 |ins C dx fs=>obtain ⟨_,_,_,e,_⟩:=x;exact ⟨_,e⟩
 |own y=>exact x
 |xd fs=>obtain ⟨_,⟨_,_,_,e,_⟩,_⟩:=x;exact ⟨_,e⟩
 |rng lo hi=>obtain ⟨_,_,_,e⟩:=x;exact ⟨_,e⟩
 |frz ob u=>exact ⟨_,x.1⟩
 |tbl ps=>exact ⟨_,x⟩
 |met f y=>exact ⟨_,x⟩
 |ext φ=>exact x.2.1
structure Fly (P:Program)(w:World)(outer:List Env)(H:Hp)(s:Shared)(H':Hp)(a:Addr)(cls:Value)(B:Heap)(a0:Value)(s':Shared):Prop where
 os:s'.os=s.os
 bare:AllBare s'.gens
 un:Un (Kr outer) [] H H' s.heap s'.heap
 hok:Hl P w H' s'.heap
 fresh:s.heap.get? a=none
 free:H' a=none
 fly:Heap.FlyingW B outer a cls a0 s'.heap
 trk:∀b o,H' b≠none→s'.heap.get? b=some o→B.get? b=some o
 old:∀b o,s.heap.get? b=some o→H b=none→b∉Kr outer→B.get? b=some o
 any:∀b o,s.heap.get? b=some o→b∉Kr outer→∃o',B.get? b=some o'
section
variable {P:Program}{w:World}{outer:List Env}{H H':Hp}{s s':Shared}{a:Addr}{cls a0:Value}{B h5:Heap}
end
structure Aez (X:Cx):Prop where
 stk:X.stack=X.env::X.outer
 fr:X.env.frame=some X.env.locals
 ex:X.ex=[]
section
variable {X:Cx}{pins:List (Addr×Obj)}{σ:L2.St}{H H':Hp}{s s':Shared}{M:Model}{E:Value→Shared→Prop}{Q:Unit→Shared→Prop}
theorem V3 (I:Ar X pins σ H s){b:Addr}{o:Obj}(e:X.s₀.heap.get? b=some o)(hb:b∉X.fs):b∉Kr X.stack:=fun z=>by
 rcases List.mem_cons.mp (I.stkSub b z) with q|q
 ·subst q
  exact Nat.lt_irrefl _ (Nat.lt_of_lt_of_le (Heap.lt_size e) I.ok.above)
 ·exact hb q
theorem Ab7 (D:Aez X)(I:Ar X pins σ H s){a:Addr}(n:s.heap.get? a=none):X.s₀.heap.get? a=none:=by
 cases q:X.s₀.heap.get? a with
 |none=>rfl
 |some o=>
  obtain ⟨o',e⟩:=I.base.there a o q (by rw [D.ex];simp)
  rw [n] at e
  cases e
theorem Abh {h':Heap}{e:Addr}{cls:Value}{vs:List Value}(D:Aez X)(I:Ar X pins σ H s)(hx:Heap.MadeExcOf s.heap h' e cls vs)
  (k:∀s'' B a0,Fly X.prog X.w X.outer X.H₀ X.s₀ H e cls B a0 s''→Q () s''):wpAny M X.A (leaving X.env (.ref e)) Q E { s with heap:=h' }:=by
 have hfr:X.A.frames=some (X.env::X.outer):=by rw [I.ok.frames,D.stk]
 have hex:∀b:Addr,b∉X.ex:=fun b=>by rw [D.ex];simp
 have hB:∀b o,s.heap.get? b=some o→b∉Kr X.stack→(PySem.W.hideAll s.heap (Kr X.stack)).get? b=some o:=fun b o q nm=>PySem.W.hideAll_get _ q nm
 have hl:s.heap.FunFrames (PySem.W.hideAll s.heap (Kr X.stack)) (X.env::X.outer):=by
  have z:=PySem.W.funFrames_hide (as:=Kr X.stack) I.stack fun env he b hb=>List.mem_filterMap.mpr ⟨env,he,hb⟩
  rw [D.stk] at z ⊢
  exact z
 have tn:∀b,H b≠none→b∉Kr X.stack:=fun b n z=>n (I.stkFree b z)
 refine wpAny_leaves_madeW (s:={ s with heap:=h' }) hfr D.fr (fun b o q=>PySem.W.of_hideAll _ q) hl hx fun h5 t f5 _ _ u5=>k _ (PySem.W.hideAll s.heap (Kr X.stack)) (.ref t) ?_
 have St:=f5.1
 have un5:Un (Kr X.stack) [] H H s.heap h5:=by
  have sl:∀b o,s.heap.get? b=some o→b∈Kr X.stack→∃sl,h5.get? b=some { o with slots:=sl }:=fun b o e hb=>by
   obtain ⟨_,o',e',nf⟩:=I.stack.mem hb
   rw [e] at e'
   cases e'
   exact u5 b o (hx.keeps b o e) nf
  refine ⟨fun b o e n hb _=>St b o (hB b o e hb),fun b o e n hb _=>sl b o e hb,fun _ _ _ n _=>n,fun b o e _=>?_,fun _ _ q=>q,fun _ _ _ q=>q,fun b ps q=>⟨#[],by rw [q];simp⟩⟩
  by_cases hb:b∈Kr X.stack
  ·obtain ⟨z,e1⟩:=sl b o e hb
   exact ⟨_,e1⟩
  ·exact ⟨o,St b o (hB b o e hb)⟩
 have hok5:Hl X.prog X.w H h5:=fun b u e=>by
  refine (I.hok b u e).stay (fun c v hc q=>St c v (hB c v q (tn c ?_))) (fun _ q=>q) fun _ _ q=>q
  rcases hc with z|z
  ·rw [z,e];simp
  ·rw [z];simp
 have I5:Ar X pins σ H { s with heap:=h5 }:=I.call' (s':={ s with heap:=h5 }) (ch:=[]) rfl un5 hok5 I.bare fun b hb=>absurd hb (by simp)
 refine ⟨I5.os,I5.bare,?_,hok5,Ab7 D I hx.new,?_,f5,fun b o n q=>?_,fun b o e n hb=>?_,fun b o e hb=>?_⟩
 ·have u:=I5.base
  rw [D.ex] at u
  exact u
 ·cases q:H e with
  |none=>rfl
  |some u=>
   obtain ⟨o,z⟩:=R8 (I.hok e u q)
   rw [hx.new] at z
   cases z
 ·cases z:H b with
  |none=>exact absurd z n
  |some u=>
   obtain ⟨o1,e1⟩:=R8 (I.hok b u z)
   have e2:=hB b o1 e1 (tn b n)
   have e3:=St b o1 e2
   have q':h5.get? b=some o:=q
   rw [q'] at e3
   cases e3
   exact e2
 ·exact hB b o (I.base.keep b o e n hb (hex b)) (V3 I e hb)
 ·obtain ⟨o1,e1⟩:=I.base.there b o e (hex b)
  exact ⟨o1,hB b o1 e1 (V3 I e hb)⟩
end
def M4 (P:Program)(w:World):Y3:=fun outer H s E e s'=>∃a cls H' B a0,e=.ref a∧Fly P w outer H s H' a cls B a0 s'∧E cls none H'
theorem Ajn {P:Program}{w:World}{outer:List Env}{H:Hp}{s s':Shared}{e:Value}(h:M4 P w outer H s (fun _ _ _=>False) e s'):False:=by
 obtain ⟨_,_,_,_,_,_,_,z⟩:=h
 exact z
theorem Mo {X:Cx}:F2 (M4 X.prog X.w) X E0:=fun _ _ _ _ _ _ _ h=>(Ajn h).elim
section
variable {P:Program}{w:World}{K:PySem.W.Frag}{mg:Str→Option Value}{base:Heap}{N:List Str}{qual:Str}{scope:Scope}{f:Addr}{cd:Value}{A:Around}{outer:List Env}{s₀:Shared}{H₀:Hp}{E:XK}
theorem Ah6 {pins:List (Addr×Obj)}{σ:L2.St}{H:Hp}{s:Shared}{h':Heap}{e:Addr}{cls:Value}{vs:List Value}(I:Ar (Ht (M4 P w) P w K mg base N qual scope f cd A outer s₀ H₀ E) pins σ H s)(hx:Heap.MadeExcOf s.heap h' e cls vs)(q:E cls none H) :
  (Ht (M4 P w) P w K mg base N qual scope f cd A outer s₀ H₀ E).xe (.ref e) { s with heap:=h' } :=
 Abh (X:=Ht (M4 P w) P w K mg base N qual scope f cd A outer s₀ H₀ E) ⟨rfl,rfl,rfl⟩ I hx fun s'' B a0 F'=>⟨e,cls,H,B,a0,rfl,F',q⟩
end
end Lw
end
section
namespace Lw
open PySem PySem.Spec PyProof.Rows L2
def Br (b:Bool)(A B:Prop):Prop:=(b=true→A)∧(b=false→B)
theorem O1 (b:Bool)(A B:Prop):Br b A B=(if b=true then A else B):=by
 unfold Br
 cases b<;>simp
def Aib (i:Nat):TE:=fun σ H Q=>match σ[i]? with
 |some (some v)=>Q v H
 |_=>False
theorem Ac4 (i:Nat):Aib i=Agz i:=by
 funext σ H Q
 apply propext
 unfold Aib Agz
 cases h:σ[i]? with
 |none=>simp
 |some o=>cases o<;>simp
def dI (C:Int→Int→Prop)(g:Int→Int→V):R2:=fun x y H Q=>match x,y with
 |.int i,.int j=>C i j∧Q (g i j) H
 |_,_=>False
def dI0 (g:Int→Int→V):R2:=fun x y H Q=>match x,y with
 |.int i,.int j=>Q (g i j) H
 |_,_=>False
def dU (g:Int→V):V→Hp→VK→Prop:=fun x H Q=>match x with
 |.int i=>Q (g i) H
 |_=>False
def Lk (t:TE):TT:=fun σ H Q=>t σ H fun x H'=>match x with
 |.bl k=>Q k H'
 |_=>False
theorem Mh (t:TE):Lk t=Wp t:=by
 funext σ H Q
 unfold Lk Wp
 congr 1
 funext x H'
 apply propext
 cases x<;>simp
theorem Pp (t:TE):Lk t=tB t:=Mh t
def Agb (t u:TT):TT:=fun σ H Q=>t σ H fun c H1=>Br c (u σ H1 Q) (Q false H1)
def dOr (t u:TT):TT:=fun σ H Q=>t σ H fun c H1=>Br c (Q true H1) (u σ H1 Q)
theorem Aem (t u:TT):Agb t u=Ahh t u:=by
 funext σ H Q
 unfold Agb Ahh
 simp only [O1]
theorem Af8 (t u:TT):dOr t u=tOr t u:=by
 funext σ H Q
 unfold dOr tOr
 simp only [O1]
def Abk (ta tb:TE):TE:=fun σ H Q=>ta σ H fun x H1=>match x with
 |.bl c=>Br c (tb σ H1 Q) (Q (.bl false) H1)
 |_=>False
def Zq (ta:TE):TE:=fun σ H Q=>ta σ H fun x H1=>match x with
 |.bl c=>Q (.bl (!c)) H1
 |_=>False
theorem Aau (t u:TE):Abk t u=Zu t u:=by
 funext σ H Q
 unfold Abk Zu
 congr 1
 funext x H'
 apply propext
 cases x<;>simp [O1]
theorem Y6 (t:TE):Zq t=Z2 t:=by
 funext σ H Q
 unfold Zq Z2
 congr 1
 funext x H'
 apply propext
 cases x<;>simp
def Afr (c:TT)(t u:TS):TS:=fun D σ H=>c σ H fun b H1=>Br b (t D σ H1) (u D σ H1)
theorem Ady (c:TT)(t u:TS):Afr c t u=Aim c t u:=by
 funext D σ H
 unfold Afr Aim
 simp only [O1]
def dIf (t:TT)(ta tb:TE):TE:=fun σ H Q=>t σ H fun c H1=>Br c (ta σ H1 Q) (tb σ H1 Q)
theorem Agw (c:TT)(t u:TE):dIf c t u=tIf c t u:=by
 funext D σ H
 unfold dIf tIf
 simp only [O1]
section
variable {X:Cx}{a b c:Expr}{ta tb tc:TE}{pos:Pos}{tA tB':TT}{Em:List Expr}
theorem dv (i:Nat){x:Str}{pos:Pos}(hN:X.N[i]? =some x:=by rfl)(hv:Vis X.env.scope x:=by first|exact Or.inl rfl|exact Or.inr (Or.inl rfl)|exact Or.inr (Or.inr rfl))(hd:(x==("__debug__":Str))=false:=by decide)
  (hcd:(x==("__classdict__":Str))=false:=by decide):PE X (.Name x pos) (Aib i):=by
 rw [Ac4]
 exact Agq hN hv hd hcd
theorem opD {f:Value→Value→Sem Value}{C:Int→Int→Prop}{g:Int→Int→V}(h:Dv X f (rI C g)):Dv X f (dI C g):=by
 intro pins s σ H x y v u Q I rx ry q
 cases x<;>cases y<;>first
  |exact False.elim q
  |exact h _ _ _ _ _ _ _ _ _ I rx ry ⟨_,_,rfl,rfl,q.1,q.2⟩
theorem Zd {f:Value→Value→Sem Value}{g:Int→Int→V}(h:Dv X f (rI0 g)):Dv X f (dI0 g):=by
 intro pins s σ H x y v u Q I rx ry q
 cases x<;>cases y<;>first
  |exact False.elim q
  |exact h _ _ _ _ _ _ _ _ _ I rx ry ⟨_,_,rfl,rfl,q⟩
theorem unD {f:Value→Sem Value}{g:Int→V}(h:UnR X f (rU g)):UnR X f (dU g):=by
 intro pins s σ H x v Q I rx q
 cases x<;>first
  |exact False.elim q
  |exact h _ _ _ _ _ _ _ I rx ⟨_,rfl,q⟩
def Bd (n:Nat)(x:Int):Prop:=x.natAbs<2 ^ n
theorem Bd.bits {n:Nat}{x:Int}(h:Bd n x):Builtin.Int.intBits x≤n:=intBits_le_iff.mpr h
def COk (i j:Int):Prop:=(Bd 4000 i∧Bd 4000 j)∨Aij i j
theorem COk.ok {i j:Int}(h:COk i j):IntMulOk i j:=by
 rcases h with ⟨h1,h2⟩|h
 ·exact PySem.IntMulOk.of_bits (Nat.le_trans h1.bits (by decide)) (Nat.le_trans h2.bits (by decide))
 ·exact h.ok
theorem Wu {n:Nat}{x:Int}(h:Bd n x)(h0:0<n):x.natAbs.log2<n:=by
 by_cases z:x.natAbs=0
 ·rw [z]
  simpa using h0
 ·exact (Nat.log2_lt z).mpr h
theorem Cg:Dv X (binaryOp .Add) (dI0 fun i j=>.int (i+j)):=Zd Agu
theorem Sj:Dv X (binaryOp .Sub) (dI0 fun i j=>.int (i-j)):=Zd Afq
theorem Cw:Dv X (binaryOp .Mult) (dI COk fun i j=>.int (i*j)):=opD (opI fun _ _ _ _ _ _ _ hc q=>mul_int q hc.ok)
theorem Ew:Dv X (binaryOp .FloorDiv) (dI (fun _ j=>0<j∧Bd 4000 j) fun i j=>.int (i / j)):=opD (opI fun i j _ _ _ _ _ hc q=>by
 have h1:(0:Int)<j:=hc.1
 exact floordiv_int (by omega) (by rw [Int.fdiv_eq_ediv_of_nonneg i (by omega)];exact q) (.inl (PyProof.noPylong_of_log2 (Nat.lt_trans (Wu hc.2 (by decide)) (by decide)))))
theorem Abj:Dv X (binaryOp .FloorDiv) (dI (fun _ j=>j≠0∧Bd 4000 j) fun i j=>.int (i.fdiv j)):=opD (opI fun i j _ _ _ _ _ hc q=>by
 exact floordiv_int hc.1 q (.inl (PyProof.noPylong_of_log2 (Nat.lt_trans (Wu hc.2 (by decide)) (by decide)))))
theorem Bn:Dv X (binaryOp .Mod) (dI (fun _ j=>0<j) fun i j=>.int (i % j)):=opD Aha
theorem Aic:Dv X (binaryOp .Mod) (dI (fun _ j=>j≠0) fun i j=>.int (i.fmod j)):=opD Act
theorem Xe:Dv X (binaryOp .Pow) (dI Ai0 fun i j=>.int (i ^ j.toNat)):=opD Ahq
theorem Vl:Dv X (compareOp .Lt) (dI0 fun i j=>.bl (decide (i<j))):=Zd Ai1
theorem Aed:Dv X (compareOp .LtE) (dI0 fun i j=>.bl (decide (i≤j))):=Zd Ako
theorem Ad3:Dv X (compareOp .Gt) (dI0 fun i j=>.bl (decide (j<i))):=Zd Ake
theorem O5:UnR X (unaryOp .USub) (dU fun i=>.int (-i)):=unD Ahf
def dEq:R2:=fun x y H Q=>match x,y with
 |.int i,.int j=>Q (.bl (decide (i=j))) H
 |.bl i,.bl j=>Q (.bl (i==j)) H
 |.str i,.str j=>Q (.bl (decide (i=j))) H
 |_,_=>False
def dNe:R2:=fun x y H Q=>match x,y with
 |.int i,.int j=>Q (.bl (!decide (i=j))) H
 |.bl i,.bl j=>Q (.bl (i != j)) H
 |.str i,.str j=>Q (.bl (!decide (i=j))) H
 |_,_=>False
theorem N5:Dv X (compareOp .Eq) dEq:=by
 intro pins s σ H x y v u Q I rx ry q
 cases x<;>cases y<;>first
  |exact False.elim q
  | (refine Ai7 _ _ _ _ _ _ _ _ _ I rx ry ⟨rfl,?_⟩
     have e:∀(i j:Int),decide (V.int i=V.int j)=decide (i=j):=fun i j=>by simp
     have e2:∀(i j:Str),decide (V.str i=V.str j)=decide (i=j):=fun i j=>by simp
     first
       |(rw [e];exact q)
       |(rw [e2];exact q)
       |(rw [P7];exact q))
theorem Alx:Dv X (compareOp .NotEq) dNe:=by
 intro pins s σ H x y v u Q I rx ry q
 cases x<;>cases y<;>first
  |exact False.elim q
  | (refine Akh _ _ _ _ _ _ _ _ _ I rx ry ⟨rfl,?_⟩
     have e:∀(i j:Int),decide (V.int i=V.int j)=decide (i=j):=fun i j=>by simp
     have e2:∀(i j:Str),decide (V.str i=V.str j)=decide (i=j):=fun i j=>by simp
     first
       |(rw [e];exact q)
       |(rw [e2];exact q)
       |(rw [P7];exact q))
theorem Bv {op:CmpOp}{r:R2}(ho:Dv X (compareOp op) r)(ha:PE X a ta)(hb:PE X b tb)(hm:behindInMarks op b=false):PT X (.Compare a [op] [b] pos) (Lk (tOp r ta tb)):=by
 rw [Mh]
 exact Adt ho ha hb hm
theorem Ft {e:Expr}{t:TE}(h:PE X e t)(he:∀whole,isTrue e X.env whole=(do let v ←whole;standAt e.pos;holding [v] (truthy v)):=by intro _;rfl):PT X e (Lk t):=by
 rw [Pp]
 exact Aga h he
theorem Aaz (ha:PT X a tA)(hb:PW X (.BoolOp .And (b::Em) pos) tB'):PW X (.BoolOp .And (a::b::Em) pos) (Agb tA tB'):=by
 rw [Aem]
 exact Ahm ha hb
theorem Xr (ha:PT X a tA)(hb:PW X (.BoolOp .Or (b::Em) pos) tB'):PW X (.BoolOp .Or (a::b::Em) pos) (dOr tA tB'):=by
 rw [Af8]
 exact Ajx ha hb
theorem Hg (ha:PE X a ta)(hb:PE X (.BoolOp .And (b::Em) pos) tb):PE X (.BoolOp .And (a::b::Em) pos) (Abk ta tb):=by
 rw [Aau]
 exact Ag6 ha hb
theorem Ae9 (ha:PE X a ta):PE X (.UnaryOp .Not a pos) (Zq ta):=by
 rw [Y6]
 exact Ago ha
theorem Aec {c:Expr}(hc:PT X c tA)(ha:PE X a ta)(hb:PE X b tb):PE X (.IfExp c a b pos) (dIf tA ta tb):=by
 rw [Agw]
 exact Zs hc ha hb
theorem D8 {c:Expr}{a b:List Stmt}{tc:TT}{t u:TS}(hc:PT X c tc)(ha:Mg X a t)(hb:Mg X b u):PS X (.If c a b pos) (Afr tc t u):=by
 rw [Ady]
 exact Ajy hc ha hb
def Ami (R:L2.St→Hp→Prop)(t u:TS):TS:=fun D σ H=>t { D with nx:=R } σ H∧∀σ' H',R σ' H'→u D σ' H'
theorem Ag8 (R:L2.St→Hp→Prop){st:Stmt}{r:List Stmt}{t u:TS}(h1:PS X st t)(h2:Mg X r u):Mg X (st::r) (Ami R t u):=by
 intro pins s σ H D I h
 refine wpAny_execs_cons (thn (h1 pins s σ H { D with nx:=R } I h.1) fun f s1 q=>?_)
 cases f with
 |next=>
  obtain ⟨σ',H',I',q⟩:=q
  exact h2 pins s1 σ' H' D I' (h.2 σ' H' q)
 |ret v=>exact q
 |brk=>exact q
 |cont=>exact q
structure Bm (P:Program)(w:World)(K:PySem.W.Frag)(mg:Str→Option Value)(base:Heap)(x:Str)(ps:List Str)(k:Nat)(sp:Sp):Prop where
 ex:∃(f:Addr) (fd:FuncData),mg x=some (.ref f)∧PySem.W.keepIn K (.ref f)=true∧Gh K fd ps []∧He P w K mg base (M4 P w) k f fd ps sp ∧
  ∃(oc:Value) (od:Option Addr) (osl:Array (Option Value)),K.lookup f=some ⟨oc,od,.func fd,osl⟩
def W8 (sp:Sp)(t:TA):TE:=fun σ H Q=>t σ H fun vs H1=>sp vs H1 Q E0
theorem R6 (sp:Sp)(t:TA):W8 sp t=Wa sp [] E0 t:=by
 funext σ H Q
 unfold W8 Wa
 simp only [List.append_nil]
theorem An {x:Str}{ps:List Str}{k k':Nat}{sp:Sp}{p:Pos}{e:Expr}{es:List Expr}{t:TA}(C:Bm X.prog X.w X.K X.mg X.base x ps k sp)(hr:B7 k' X.A)(hk:k≤k')(hg:Gl X x)
  (ha:PA X (e::es) t) (hdb:(x==("__debug__":Str))=false:=by decide) (he:starEach (e::es) X.env=(false,eval e X.env)::starEach es X.env:=by rfl) (hpl:(backTo pos (starEach es X.env)).any (·.1)=false:=by rfl) :
  PE X (.Call (.Name x p) (e::es) [] pos) (W8 sp t):=by
 obtain ⟨f,fd,h1,h2,h3,h4,_⟩:=C.ex
 rw [R6]
 exact Ads (h4.mono hk) hr hg h1 h2 h3 .nil Mo ha hdb he hpl
def Jf (xs:List V):Bool:=Nat.ble xs.length 1000
theorem R4 {xs:List V}(h:Jf xs=true):xs.length≤sizeLine:=Nat.le_trans (Nat.le_of_ble_eq_true h) (by decide)
def Alk (t:TA):TE:=fun σ H Q=>t σ H fun xs H1=>match Jf xs with
 |true=>∀p H',Ah H1 H'→H' p=some (.tup xs)→Q (.ref p) H'
 |false=>False
def Aj8 (t:TA):TE:=fun σ H Q=>t σ H fun xs H1=>match Jf xs with
 |true=>∀p H',Ah H1 H'→H' p=some (.lst xs)→Q (.ref p) H'
 |false=>False
theorem Am {H:Hp}{p:Addr}{o:HO}(h:H p=none):Ah H (upd H p o):=fun b u e=>by
 rw [Ak (Bh e h)]
 exact e
theorem Ca {es:List Expr}{t:TA}{x1}(h:PA X es t):PE X (.Tuple es x1 pos) (Alk t):=by
 intro pins s σ H Q I hq
 refine wpAny_Tuple_spliced (thn (h pos pins s σ H _ I hq) fun us s1 ⟨xs,H1,I1,r,q⟩=>?_)
 cases hl:Jf xs with
 |false=>
  have q':(match Jf xs with|true=>_|false=>False:Prop):=q
  rw [hl] at q'
  exact q'.elim
 |true=>
  have z:=R4 hl
  have q':(match Jf xs with|true=>∀p H',Ah H1 H'→H' p=some (.tup xs)→Q (.ref p) H'|false=>False:Prop):=q
  rw [hl] at q'
  refine ⟨by rw [←r.length];exact z,?_⟩
  have hf:H1 s1.heap.objs.size=none:=I1.hok.fresh (Nat.le_refl _)
  refine ⟨.ref s1.heap.objs.size,upd H1 s1.heap.objs.size (.tup xs),I1.laid (t':=s1.toks) (fun b u e=>Heap.get?_push_of_some _ e) (Nat.le_refl _) ?_,rfl,q' _ _ (Am hf) Ad⟩
  exact ⟨z,us,r,⟨_,Heap.get?_push_size _ rfl,rfl,_,rfl⟩⟩
theorem Iw {es:List Expr}{t:TA}(h:PA X es t):PE X (.List es pos) (Aj8 t):=by
 intro pins s σ H Q I hq
 refine wpAny_List_spliced (thn (h pos pins s σ H _ I hq) fun us s1 ⟨xs,H1,I1,r,q⟩=>?_)
 cases hl:Jf xs with
 |false=>
  have q':(match Jf xs with|true=>_|false=>False:Prop):=q
  rw [hl] at q'
  exact q'.elim
 |true=>
  have z:=R4 hl
  have q':(match Jf xs with|true=>∀p H',Ah H1 H'→H' p=some (.lst xs)→Q (.ref p) H'|false=>False:Prop):=q
  rw [hl] at q'
  refine ⟨by rw [←r.length];exact z,?_⟩
  have hf:H1 s1.heap.objs.size=none:=I1.hok.fresh (Nat.le_refl _)
  refine ⟨.ref s1.heap.objs.size,upd H1 s1.heap.objs.size (.lst xs),I1.laid (t':=s1.toks) (fun b u e=>Heap.get?_push_of_some _ e) (Nat.le_refl _) ?_,rfl,q' _ _ (Am hf) Ad⟩
  exact ⟨z,us,0,r,Heap.get?_push_size _ rfl⟩
def Aia (xs:List V):Int→Option V
 |.ofNat n=>xs[n]?
 |.negSucc _=>none
theorem Adl {xs:List V}{i:Int}{v:V}(h:Aia xs i=some v):Nv xs i=some v:=by
 cases i with
 |ofNat n=>exact C5 h
 |negSucc n=>cases h
def Alp:R2:=fun x y H Q=>match x,y with
 |.ref p,.int i=>∃xs,H p=some (.tup xs)∧match Aia xs i with
  |some v=>Q v H
  |none=>False
 |_,_=>False
def Akl (K:PySem.W.Frag):R2:=fun x y H Q=>match x,y with
 |.ref p,.int i=>∃xs v,Ay K H p xs∧Nv xs i=some v∧Q v H
 |_,_=>False
theorem Av:IxR X Alp:=by
 intro value slice pins s σ H x y v u Q I rx ry h hs
 cases x<;>cases y<;>first
  |exact False.elim h
  | (obtain ⟨xs,e,q⟩:=h
     cases z:Aia xs _ with
     | none=>
       rw [z] at q
       exact q.elim
     | some w=>
       rw [z] at q
       exact Ahc value slice pins s σ H _ _ v u Q I rx ry ⟨_,xs,_,w,rfl,rfl,E4.of e,Adl z,q⟩ hs)
theorem Dd:IxR X (Akl X.K):=by
 intro value slice pins s σ H x y v u Q I rx ry h hs
 cases x<;>cases y<;>first
  |exact False.elim h
  | (obtain ⟨xs,w,e,z,q⟩:=h
     exact Adj value slice pins s σ H _ _ v u Q I rx ry ⟨_,xs,_,w,rfl,rfl,e,z,q⟩ hs)
theorem Ac0 (T:String){x:Str}(hg:Gl X x)(hm:X.mg x=none)(hv:bootBuiltins x=some (.type T))(hn:x≠"__name__":=by decide)(hd:(x==("__debug__":Str))=false:=by decide):PE X (.Name x pos) (tC (.ty T)):=
 Adn hg hm hv rfl hn hd
def Amj:List V→Hp→VK→Prop:=fun xs H Q=>match xs with
 |[.int i]=>Q (.int (i.natAbs:Int)) H
 |_=>False
theorem Ajz:Ed X (.builtin "abs") Amj:=by
 intro pins s σ H xs us Q I r h
 match xs,h with
 |[.int i],h=>
  have e:(if i<0 then -i else i)=(i.natAbs:Int):=by split<;>omega
  exact Aaq pins s σ H _ us Q I r ⟨i,rfl,by rw [e];exact h⟩
def Alj (K:PySem.W.Frag):List V→Hp→VK→Prop:=fun xs H Q=>match xs with
 |[.ref p]=>∃ys,(Ay K H p ys∨E4 K H p ys)∧Q (.int ys.length) H
 |[.str z]=>z.length≤sizeLine∧Q (.int z.length) H
 |_=>False
theorem Df:Ed X (.builtin "len") (Alj X.K):=by
 intro pins s σ H xs us Q I r h
 match xs,h with
 |[.ref p],⟨ys,h1,q⟩=>exact Pw pins s σ H _ us Q I r ⟨p,ys,rfl,h1,q⟩
 |[.str z],⟨h1,q⟩=>exact P8 pins s σ H _ us Q I r ⟨z,rfl,h1,q⟩
def Zv (t c:String):Option Bool:=
 if t=c then some true else if t="bool"∧c="int" then some true
 else if (t="int"∨t="bool"∨t="str"∨t="tuple"∨t="list"∨t="dict"∨t="NoneType")∧(c="int"∨c="bool"∨c="str"∨c="tuple"∨c="list") then some false else none
def Adc:HO→Option String
 |.lst _=>some "list"
 |.frz _ (.lst _)=>some "list"
 |.tup _=>some "tuple"
 |.dK _=>some "dict"
 |.dT _=>some "dict"
 |_=>none
def Amr:List V→Hp→VK→Prop:=fun xs H Q=>match xs with
 |[.non,.ty c]=>∃b,Zv "NoneType" c=some b∧Q (.bl b) H
 |[.bl _,.ty c]=>∃b,Zv "bool" c=some b∧Q (.bl b) H
 |[.int _,.ty c]=>∃b,Zv "int" c=some b∧Q (.bl b) H
 |[.str _,.ty c]=>∃b,Zv "str" c=some b∧Q (.bl b) H
 |[.ref p,.ty c]=>∃u b t,H p=some u∧Adc u=some t∧Zv t c=some b∧Q (.bl b) H
 |_=>False
theorem Jm (K:PySem.W.Frag){t c:String}{b:Bool}(h:Zv t c=some b):PySem.W.kitOne K (.type t) (.type c)=some b:=by
 unfold Zv at h
 split at h
 ·rename_i e
  subst e
  cases h
  unfold PySem.W.kitOne
  rw [if_pos (by simp)]
 ·split at h
  ·rename_i e
   obtain ⟨rfl,rfl⟩:=e
   cases h
   kernel_rfl
  ·split at h
   ·rename_i e1 e2 e
    cases h
    obtain ⟨ht,hc⟩:=e
    rcases ht with rfl|rfl|rfl|rfl|rfl|rfl|rfl<;>rcases hc with rfl|rfl|rfl|rfl|rfl<;>first
     |exact absurd rfl e1
     |exact absurd ⟨rfl,rfl⟩ e2
     |kernel_rfl
   ·cases h
theorem Wg:Ed X (.builtin "isinstance") Amr:=by
 intro pins s σ H xs us Q I r h
 match xs,h with
 |[.non,.ty c],⟨b,e,q⟩=>
  obtain ⟨u,w',rfl,r1,r2⟩:=Hk r
  cases (show w'=Value.type c from r2)
  exact Fs I r1 .non (Jm X.K e) fun tk=>⟨.bl b,H,I.tok _,rfl,q⟩
 |[.bl y,.ty c],⟨b,e,q⟩=>
  obtain ⟨u,w',rfl,r1,r2⟩:=Hk r
  cases (show w'=Value.type c from r2)
  exact Fs I r1 (.bl y) (Jm X.K e) fun tk=>⟨.bl b,H,I.tok _,rfl,q⟩
 |[.int y,.ty c],⟨b,e,q⟩=>
  obtain ⟨u,w',rfl,r1,r2⟩:=Hk r
  cases (show w'=Value.type c from r2)
  exact Fs I r1 (.int y) (Jm X.K e) fun tk=>⟨.bl b,H,I.tok _,rfl,q⟩
 |[.str y,.ty c],⟨b,e,q⟩=>
  obtain ⟨u,w',rfl,r1,r2⟩:=Hk r
  cases (show w'=Value.type c from r2)
  exact Fs I r1 (.str y) (Jm X.K e) fun tk=>⟨.bl b,H,I.tok _,rfl,q⟩
 | [.ref p,.ty c],⟨o,b,t,e1,e2,e,q⟩=>
  obtain ⟨u,w',rfl,r1,r2⟩:=Hk r
  cases (show w'=Value.type c from r2)
  have ty:Kk X.K H (.ref p) (.type t):=by
   cases o with
   |lst ys=>cases e2;exact .lst e1
   |tup ys=>cases e2;exact .tup e1
   |dK ys=>cases e2;exact .dK e1
   |dT ys=>cases e2;exact .dT e1
   |frz ob u=>
    cases u with
    |lst ys=>cases e2;exact .frz e1
    |_=>cases e2
   |_=>cases e2
  exact Fs I r1 ty (Jm X.K e) fun tk=>⟨.bl b,H,I.tok _,rfl,q⟩
end
section
variable {X:Cx}{pos:Pos}
def Agr (c:TT)(tb:TS):TS:=fun D σ H=>∃W:Nat→L2.St→Hp→Prop,(∃m,W m σ H)∧∀m σ H,W m σ H →
 c σ H fun b H1=>Br b (tb { D with nx:=fun σ' H'=>∃m',m'<m∧W m' σ' H',ct:=fun σ' H'=>∃m',m'<m∧W m' σ' H',bk:=D.nx } σ H1) (D.nx σ H1)
theorem Qx {c:Expr}{body:List Stmt}{tc:TT}{tb:TS}(hp:PassesOwn (model X.prog X.w) X.A X.env X.xe)(hc:PT X c tc)(hb:Mg X body tb):PS X (.While c body [] pos) (Agr tc tb):=by
 intro pins s σ H D I h
 obtain ⟨W,⟨m0,w0⟩,turn⟩:=h
 refine wpAny_While (codeAny_whileLoop (fun n s'=>∃σ' H',Ar X pins σ' H' s'∧W n σ' H') ?_ m0 ⟨σ,H,I,w0⟩)
 rintro n s1 ⟨σ1,H1,I1,w1⟩
 refine wpAny_passesOwn hp (thn (hc pins s1 σ1 H1 _ I1 (turn n σ1 H1 w1)) fun b s2 ⟨H2,I2,q2⟩=>?_)
 cases b with
 | true=>
  have q2:=q2.1 rfl
  rw [if_pos rfl]
  refine wpAny_passesOwn hp (thn (hb pins s2 σ1 H2 _ I2 q2) fun f s3 q3=>?_)
  cases f with
  |next=>
   obtain ⟨σ3,H3,I3,m',hm,w3⟩:=q3
   exact ⟨m',hm,σ3,H3,I3,w3⟩
  |cont=>
   obtain ⟨σ3,H3,I3,m',hm,w3⟩:=q3
   exact ⟨m',hm,σ3,H3,I3,w3⟩
  |brk=>exact q3
  |ret v=>exact q3
 |false=>
  rw [if_neg Bool.false_ne_true]
  exact wpAny_execs_nil ⟨σ1,H2,I2,q2.2 rfl⟩
end
structure B8 (K:PySem.W.Frag)(mg:Str→Option Value)(x:Str)(st:Stmt)(ps:List Str):Prop where
 ex:∃(f:Addr) (fd:FuncData),Fun K x x st f fd∧mg x=some (.ref f)∧Gh K fd ps []
section
variable {P:Program}{w:World}{K:PySem.W.Frag}{mg:Str→Option Value}{base:Heap}
theorem B8.calX {x:Str}{st:Stmt}{N ps:List Str}{k:Nat}{sp:Sp}(d:B8 K mg x st ps)(S:Al N ps (Af st))(len:∀vs H Q E,sp vs H Q E→vs.length=ps.length)
  (hbody:∀(f:Addr) (cdv:Value) (A:Around) (outer:List Env) (s:Shared) (H:Hp) (vs:List V) (Q:VK) (E:XK),B7 k (A.deeper (envOfC x (Af st) s.heap.objs.size f cdv))→sp vs H Q E →
   ∃t,Mg (Ht (M4 P w) P w K mg base N x (Af st) f cdv A outer s H E) (Bz st) t∧t { nx:=fun _ H'=>Q .non H',rt:=Q } (Gg N vs) H):Bm P w K mg base x ps (k+1) sp:=by
 obtain ⟨f,fd,F,hm,hb⟩:=d.ex
 obtain ⟨oc,od,kV,doc,pm,an,cdv,ct,osl,rfl,lk,hcd⟩:=F.ex
 exact ⟨f,_,hm,F.kp,hb,Acd lk hcd S len fun A outer s H vs Q E hr hsp=>hbody f cdv A outer s H vs Q E hr hsp,oc,od,osl,lk⟩
theorem B8.cal {x:Str}{st:Stmt}{N ps:List Str}{k:Nat}{sp:Sp}(d:B8 K mg x st ps)(S:Al N ps (Af st))(len:∀vs H Q E,sp vs H Q E→vs.length=ps.length)
  (hbody:∀(f:Addr) (cdv:Value) (A:Around) (outer:List Env) (s:Shared) (H:Hp) (vs:List V) (Q:VK) (E:XK),B7 k (A.deeper (envOfC x (Af st) s.heap.objs.size f cdv))→sp vs H Q E →
   ∃t,Mg (Ht (M4 P w) P w K mg base N x (Af st) f cdv A outer s H E).nox (Bz st) t∧t { nx:=fun _ H'=>Q .non H',rt:=Q } (Gg N vs) H):Bm P w K mg base x ps (k+1) sp:=
 d.calX S len fun f cdv A outer s H vs Q E hr hsp=>by
  obtain ⟨t,h,q⟩:=hbody f cdv A outer s H vs Q E hr hsp
  exact ⟨t,h.nox,q⟩
end
theorem Af0 {K:PySem.W.Frag}{H H':Hp}{a:Addr}{xs:List V}(e:Ah H H')(h:E4 K H a xs):E4 K H' a xs:=by
 rcases h with (h|⟨o,h⟩)|h
 ·exact .inl (.inl (e _ _ h))
 ·exact .inl (.inr ⟨o,e _ _ h⟩)
 ·exact .inr h
mutual
inductive Rp (K:PySem.W.Frag)(H:Hp):V→PyData→Prop where
 |non:Rp K H .non .none
 |bl (b:Bool):Rp K H (.bl b) (.bool b)
 |int (i:Int):Rp K H (.int i) (.int i)
 |str (x:Str):Rp K H (.str x) (.str x)
 |tup {p:Addr} {xs:List V} {ds:List PyData}:E4 K H p xs→O6 K H xs ds→Rp K H (.ref p) (.tuple ds)
 |lst {p:Addr} {xs:List V} {ds:List PyData}:Ay K H p xs→O6 K H xs ds→Rp K H (.ref p) (.list ds)
inductive O6 (K:PySem.W.Frag)(H:Hp):List V→List PyData→Prop where
 |nil:O6 K H [] []
 |cons {v:V} {d:PyData} {vs:List V} {ds:List PyData}:Rp K H v d→O6 K H vs ds→O6 K H (v::vs) (d::ds)
end
mutual
theorem Rp.up {K:PySem.W.Frag}{H H':Hp}(s:Ah H H'):∀{v:V} {d:PyData},Rp K H v d→Rp K H' v d
 |_,_,.non=>.non
 |_,_,.bl b=>.bl b
 |_,_,.int i=>.int i
 |_,_,.str x=>.str x
 |_,_,.tup h r=>.tup (Af0 s h) (O6.up s r)
 |_,_,.lst h r=>.lst (s.seq h) (O6.up s r)
theorem O6.up {K:PySem.W.Frag}{H H':Hp}(s:Ah H H'):∀{v:List V} {d:List PyData},O6 K H v d→O6 K H' v d
 |_,_,.nil=>.nil
 |_,_,.cons h r=>.cons (Rp.up s h) (O6.up s r)
end
section
variable {X:Cx}
mutual
theorem Rp.reads {pins:List (Addr×Obj)}{σ:L2.St}{H:Hp}{s:Shared}(I:Ar X pins σ H s):∀{v:V} {d:PyData} {u:Value},Rp X.K H v d→L2.RelV v u→∃as,Reads s.heap u d as
 |_,_,_,.non,r=>by cases r;exact ⟨_,Reads.none⟩
 |_,_,_,.bl b,r=>by cases r;exact ⟨_,Reads.bool b⟩
 |_,_,_,.int i,r=>by obtain ⟨t,rfl⟩:=r;exact ⟨_,Reads.int i t⟩
 |_,_,_,.str i,r=>by obtain ⟨t,rfl⟩:=r;exact ⟨_,Reads.str i t⟩
 |_,_,_,.tup h q,r=>by
  cases r
  obtain ⟨its,rv,⟨o,e,c,n,dd⟩,_⟩:=I.tuple h
  obtain ⟨as,ra⟩:=O6.reads I q rv
  exact ⟨as,reads_tuple_at e c dd (by simpa using ra)⟩
 |_,_,_,.lst h q,r=>by
  cases r
  obtain ⟨its,rv,⟨o,n,e,c,_,dd⟩,_⟩:=I.list h
  obtain ⟨as,ra⟩:=O6.reads I q rv
  exact ⟨_,reads_list_at e c dd (by simpa using ra)⟩
theorem O6.reads {pins:List (Addr×Obj)}{σ:L2.St}{H:Hp}{s:Shared}(I:Ar X pins σ H s):∀{v:List V} {d:List PyData} {u:List Value},O6 X.K H v d→A4 v u→∃as,ReadsAll s.heap u d as
 |_,_,_,.nil,r=>by cases r;exact ⟨_,ReadsAll.nil⟩
 | _,_,_,.cons h q,r=>by
  cases r with
  |cons r1 r2=>
   obtain ⟨as,ra⟩:=Rp.reads I h r1
   obtain ⟨bs,rb⟩:=O6.reads I q r2
   exact ⟨_,ReadsAll.cons ra rb⟩
end
def Amc (K:PySem.W.Frag):R2:=fun x y H Q=>∃d e,Rp K H x d∧Rp K H y e∧SeqAt.shaped d=true∧SeqAt.shaped e=true∧Q (.bl (PyData.eqv d e)) H
def Al5 (K:PySem.W.Frag):R2:=fun x y H Q=>∃d e,Rp K H x d∧Rp K H y e∧SeqAt.shaped d=true∧SeqAt.shaped e=true∧Q (.bl (!PyData.eqv d e)) H
theorem Kw (hu:X.A.units+64<cLine):Dv X (compareOp .Eq) (Amc X.K):=by
 intro pins s σ H x y v u Q I rx ry q
 obtain ⟨d,e,h1,h2,h3,h4,q⟩:=q
 obtain ⟨as,r1⟩:=h1.reads I rx
 obtain ⟨bs,r2⟩:=h2.reads I ry
 exact PyProof.Rows.eq_dataH r1 r2 h3 h4 hu ⟨.bl _,H,I,rfl,q⟩
theorem O0 (hu:X.A.units+64<cLine):Dv X (compareOp .NotEq) (Al5 X.K):=by
 intro pins s σ H x y v u Q I rx ry q
 obtain ⟨d,e,h1,h2,h3,h4,q⟩:=q
 obtain ⟨as,r1⟩:=h1.reads I rx
 obtain ⟨bs,r2⟩:=h2.reads I ry
 exact PyProof.Rows.ne_dataH r1 r2 h3 h4 hu ⟨.bl _,H,I,rfl,q⟩
end
end Lw
end
section
set_option exponentiation.threshold 5000
namespace Lw
open PySem PySem.Spec PyProof.Rows L2
def cell (ns:List Int)(k:Int):Int:=if ns.length=0 then 0 else ns.getD (k % (ns.length:Int)).toNat 0
theorem A0 {n:Nat}{x:Int}(h:Nat.blt x.natAbs (2 ^ n)=true):Bd n x:=by
 unfold Bd
 exact Nat.lt_of_lt_of_le (Nat.lt_of_succ_le (Nat.le_of_ble_eq_true h)) (Nat.le_refl _)
theorem Bd.mono {m n:Nat}{x:Int}(h:Bd m x)(l:m≤n):Bd n x:=Nat.lt_of_lt_of_le h (Nat.pow_le_pow_right (by decide) l)
theorem Bd.mul {m n:Nat}{x y:Int}(h:Bd m x)(l:Bd n y):Bd (m+n) (x*y):=by
 unfold Bd at *
 rw [Int.natAbs_mul,Nat.pow_add]
 by_cases z:y.natAbs=0
 ·rw [z,Nat.mul_zero]
  exact Nat.mul_pos (Nat.pow_pos (by decide)) (Nat.pow_pos (by decide))
 ·exact Nat.lt_of_lt_of_le (Nat.mul_lt_mul_of_pos_right h (Nat.pos_of_ne_zero z)) (Nat.mul_le_mul_left _ (Nat.le_of_lt l))
theorem Bd.add {n:Nat}{x y:Int}(h:Bd n x)(l:Bd n y):Bd (n+1) (x+y):=by
 unfold Bd at *
 have:=Int.natAbs_add_le x y
 rw [Nat.pow_succ]
 omega
theorem Bd.sub {n:Nat}{x y:Int}(h:Bd n x)(l:Bd n y):Bd (n+1) (x-y):=by
 unfold Bd at *
 have:(x-y).natAbs≤x.natAbs+y.natAbs:=by omega
 rw [Nat.pow_succ]
 omega
theorem Bd.neg {n:Nat}{x:Int}(h:Bd n x):Bd n (-x):=by
 unfold Bd at *
 omega
theorem Bd.of_le {n:Nat}{x y:Int}(h:Bd n y)(l:x.natAbs≤y.natAbs):Bd n x:=Nat.lt_of_le_of_lt l h
theorem Dy {x b:Int}{n:Nat}(h1:-b≤x)(h2:x≤b)(h:Bd n b):Bd n x:=h.of_le (by omega)
def Tg (t b:Int):Int:=t / (Int.gcd t b:Int)
def Of (t b:Int):Int:=b / (Int.gcd t b:Int)
theorem Sn (t b:Int):Tg t b*(Int.gcd t b:Int)=t:=Int.ediv_mul_cancel (Int.gcd_dvd_left ..)
theorem Jn (t b:Int):Of t b*(Int.gcd t b:Int)=b:=Int.ediv_mul_cancel (Int.gcd_dvd_right ..)
theorem Gf (x:Int)(g:Nat):(x / (g:Int)).natAbs≤x.natAbs:=Int.natAbs_ediv_le_natAbs x g
theorem Adv {n:Nat}{t b:Int}(h:Bd n t):Bd n (Tg t b):=h.of_le (Gf ..)
theorem Ad0 {n:Nat}{t b:Int}(h:Bd n b):Bd n (Of t b):=h.of_le (Gf ..)
structure Fq (n:Nat)(H:Hp)(p:Addr)(a b:Int):Prop where
 at':H p=some (.tup [.int a,.int b])
 pos:0<b
 ba:Bd n a
 bb:Bd n b
theorem Fq.up {n:Nat}{H H':Hp}{p:Addr}{a b:Int}(s:Ah H H')(h:Fq n H p a b):Fq n H' p a b:=⟨s _ _ h.at',h.pos,h.ba,h.bb⟩
theorem Fq.mono {m n:Nat}{H:Hp}{p:Addr}{a b:Int}(h:Fq m H p a b)(l:m≤n):Fq n H p a b:=⟨h.at',h.pos,h.ba.mono l,h.bb.mono l⟩
abbrev Q2:=Int×Int
def ltQ (x y:Q2):Bool:=decide (x.1*y.2<y.1*x.2)
theorem Xw {m n:Nat}{i j:Int}(h:Bd m i)(h':Bd n j)(l:m≤4000)(l':n≤4000):COk i j:=.inl ⟨h.mono l,h'.mono l'⟩
structure Pq (n:Nat)(H:Hp)(r:Addr)(lo:Q2)(hi:Option Q2):Prop where
 ex:∃l x,H r=some (.tup [.ref l,x])∧Fq n H l lo.1 lo.2∧(hi=none∧x=.non∨∃q y,hi=some y∧x=.ref q∧Fq n H q y.1 y.2)
theorem Y5 (a b:Int):Int.gcd b (a.fmod b)=Int.gcd a b:=by
 rw [Int.fmod_def,Int.gcd_sub_mul_left_right,Int.gcd_comm]
theorem Aeo (a:Int){b:Int}(h:b≠0):(a.fmod b).natAbs<b.natAbs:=by
 have e0:=Int.emod_nonneg a h
 have e1:=Int.emod_lt a h
 rw [Int.fmod_eq_emod]
 by_cases c:0≤b∨b∣a
 ·rw [if_pos c]
  omega
 ·rw [if_neg c]
  have e2:a % b≠0:=fun z=>c (.inr (Int.dvd_of_emod_eq_zero z))
  have:¬0≤b:=fun z=>c (.inl z)
  omega
def Ud (t b:Int):Int:=if b<0 then -Tg t b else Tg t b
def Ru (t b:Int):Int:=if b<0 then -Of t b else Of t b
def dvs (t b:Int):Int:=if b<0 then -(Int.gcd t b:Int) else (Int.gcd t b:Int)
theorem Q1 (t:Int){b:Int}(hb:b≠0):0<(Int.gcd t b:Int):=by
 have:0<Int.gcd t b:=Int.gcd_pos_of_ne_zero_right _ hb
 omega
theorem Agv (t:Int){b:Int}(hb:b≠0):dvs t b≠0:=by
 have:=Q1 t hb
 unfold dvs
 split<;>omega
theorem Ahl {n:Nat}(t:Int){b:Int}(hb:b≠0)(h:Bd n b):Bd n (dvs t b):=by
 have l:=Nat.le_of_dvd (by omega:0<b.natAbs) (show Int.gcd t b∣b.natAbs from Nat.gcd_dvd_right ..)
 refine h.of_le ?_
 unfold dvs
 split<;>omega
theorem Ag9 (t:Int){b:Int}(hb:b≠0):t.fdiv (dvs t b)=Ud t b:=by
 have g:=Q1 t hb
 have h:=Sn t b
 unfold dvs Ud
 split
 ·have e:t=(-Tg t b)*(-(Int.gcd t b:Int)):=by rw [Int.neg_mul_neg];exact h.symm
  exact (congrArg (fun z=>z.fdiv (-(Int.gcd t b:Int))) e).trans (Int.mul_fdiv_cancel _ (by omega))
 ·exact (congrArg (fun z=>z.fdiv (Int.gcd t b:Int)) h.symm).trans (Int.mul_fdiv_cancel _ (by omega))
theorem Ah9 (t:Int){b:Int}(hb:b≠0):b.fdiv (dvs t b)=Ru t b:=by
 have g:=Q1 t hb
 have h:=Jn t b
 unfold dvs Ru
 split
 ·have e:b=(-Of t b)*(-(Int.gcd t b:Int)):=by rw [Int.neg_mul_neg];exact h.symm
  exact (congrArg (fun z=>z.fdiv (-(Int.gcd t b:Int))) e).trans (Int.mul_fdiv_cancel _ (by omega))
 ·exact (congrArg (fun z=>z.fdiv (Int.gcd t b:Int)) h.symm).trans (Int.mul_fdiv_cancel _ (by omega))
theorem Lc (t:Int){b:Int}(hb:b≠0):0<Ru t b:=by
 have g:=Q1 t hb
 have h:=Jn t b
 unfold Ru
 split
 ·refine Int.lt_of_not_ge fun c=>?_
  have:=Int.mul_nonneg (show 0≤Of t b by omega) (Int.le_of_lt g)
  omega
 ·refine Int.lt_of_not_ge fun c=>?_
  have:=Int.mul_nonpos_of_nonpos_of_nonneg c (Int.le_of_lt g)
  omega
theorem Mp {n:Nat}{t b:Int}(h:Bd n t):Bd n (Ud t b):=by
 have:=Adv (b:=b) h
 unfold Ud
 split
 ·exact this.neg
 ·exact this
theorem Mn {n:Nat}{t b:Int}(h:Bd n b):Bd n (Ru t b):=by
 have:=Ad0 (t:=t) h
 unfold Ru
 split
 ·exact this.neg
 ·exact this
structure Yo (H:Hp)(p:Addr)(t b:Int):Prop where
 at':H p=some (.tup [.int (Ud t b),.int (Ru t b)])
theorem Yo.fq {n:Nat}{H:Hp}{p:Addr}{t b:Int}(h:Yo H p t b)(hb:b≠0)(h1:Bd n t)(h2:Bd n b):Fq n H p (Ud t b) (Ru t b):=⟨h.at',Lc t hb,Mp h1,Mn h2⟩
end Lw
end
section
namespace Lw
open PySem PySem.Spec PyProof.Rows L2
def Sc (kd:Bool)(h:Heap)(it l:Addr)(k:Nat):Prop:=match kd with
 |true=>h.IsListIter it l k
 |false=>h.IsTupleIter it l k
def N9 (kd:Bool)(h:Heap)(l:Addr)(xs:Array Value):Prop:=match kd with
 |true=>h.IsList l xs
 |false=>h.IsTuple l xs
def Yh (kd:Bool)(K:PySem.W.Frag)(H:Hp)(a:Addr)(xs:List V):Prop:=match kd with
 |true=>Ay K H a xs
 |false=>E4 K H a xs
theorem Sc.ob {kd:Bool}{h:Heap}{it l:Addr}{k:Nat}(x:Sc kd h it l k):∃o,h.get? it=some o∧∀v,o.data≠.cell v:=by
 cases kd with
 |true=>obtain ⟨o,e,_,d⟩:=x;exact ⟨o,e,fun v z=>by rw [d] at z;cases z⟩
 |false=>obtain ⟨o,e,_,d⟩:=x;exact ⟨o,e,fun v z=>by rw [d] at z;cases z⟩
theorem Sc.mv {kd:Bool}{h h':Heap}{it l:Addr}{k:Nat}(x:Sc kd h it l k)(q:∀o,h.get? it=some o→h'.get? it=some o):Sc kd h' it l k:=by
 cases kd with
 |true=>obtain ⟨o,e,r⟩:=x;exact ⟨o,q o e,r⟩
 |false=>obtain ⟨o,e,r⟩:=x;exact ⟨o,q o e,r⟩
theorem N9.mv {kd:Bool}{h h':Heap}{l:Addr}{xs:Array Value}(x:N9 kd h l xs)(q:∀o,h.get? l=some o→h'.get? l=some o):N9 kd h' l xs:=by
 cases kd with
 |true=>obtain ⟨o,e,r⟩:=x;exact ⟨o,q o e,r⟩
 |false=>obtain ⟨o,e,r⟩:=x;exact ⟨o,q o e,r⟩
theorem N9.lt {kd:Bool}{h:Heap}{l:Addr}{xs:Array Value}(x:N9 kd h l xs):l<h.objs.size:=by
 cases kd with
 |true=>obtain ⟨o,e,r⟩:=x;exact Heap.lt_size e
 |false=>obtain ⟨o,e,r⟩:=x;exact Heap.lt_size e
section
variable {prog:Program}{w:World}{A:Around}{E:Value→Shared→Prop}{s:Shared}
theorem Hy {kd:Bool}{it l:Addr}{k:Nat}{xs:Array Value}{x:Value}{Q:Value→Shared→Prop}(h1:Sc kd s.heap it l k)(h2:N9 kd s.heap l xs)(hx:xs[k]? =some x)
  (q:∀g,Sc kd g it l (k+1)→Heap.SameBut it s.heap g→Q x { s with heap:=g }):wpAny (model prog w) A (Builtin.SmallTypes.nextOf (.ref it)) Q E s:=by
 cases kd with
 |true=>exact wpAny_nextOf_list_item h1 h2 hx q
 |false=>
  have h1':s.heap.IsTupleIter it l k:=h1
  obtain ⟨io,e1,c1,d1⟩:=id h1'
  obtain ⟨lo,e2,_,m2,d2⟩:=(show s.heap.IsTuple l xs from h2)
  have ty:=h1'.typeIs
  unfold Builtin.SmallTypes.nextOf;refine wpAny_bind (wpAny_callSpecial?_slot (name:=Str.ofString "__next__") ty F.slot_tuple_iterator_next (wpAny_call_entry F.slot_tuple_iterator_next ty F.entry_tuple_iterator_next ?_ (F.args_tuple_iterator_next_1 _)))
  show wpAny _ _ (field (Value.ref it) 0 >>= _) _ _ _
  refine wpAny_bind (wpAny_field e1 d1 (x:=.ref l) rfl ?_)
  show wpAny _ _ (if (Value.ref l==Value.none)=true then _ else _) _ _ _
  rw [if_neg (show ¬(Value.ref l==Value.none)=true from Bool.false_ne_true)]
  show wpAny _ _ (field (Value.ref it) 1 >>= _) _ _ _
  refine wpAny_bind (wpAny_field e1 d1 (x:=.int k 0) rfl ?_)
  show wpAny _ _ (seqItems? (Value.ref l) >>= _) _ _ _
  refine wpAny_bind (wpAny_seqItems e2 d2 ?_)
  simp only [Int.toNat_natCast,hx]
  refine wpAny_bind (wpAny_setField e1 d1 (by simp) (wpAny_pure ⟨x,rfl,wpAny_pure (q _ ?_ (Heap.SameBut.update ..))⟩))
  refine ⟨_,Heap.get?_update_self _ e1 (Obj.isFreed_of_fields (Obj.data_mapFields d1 _)),(Obj.cls_mapFields ..).trans c1,?_⟩
  rw [Obj.data_mapFields d1]
  simp [rawInt]
theorem Oj {kd:Bool}{it l:Addr}{k:Nat}{xs:Array Value}{Q:Value→Shared→Prop}(hh:A.handled=none)(h1:Sc kd s.heap it l k)(h2:N9 kd s.heap l xs)(hx:xs[k]? =none)
  (q:∀g e,Heap.ExtBut it s.heap g→(∃o,g.get? e=some o∧o.cls=.type "StopIteration")→E (.ref e) { s with heap:=g }):wpAny (model prog w) A (Builtin.SmallTypes.nextOf (.ref it)) Q E s:=by
 cases kd with
 |true=>exact wpAny_nextOf_list_end hh h1 h2 hx q
 |false=>
  have h1':s.heap.IsTupleIter it l k:=h1
  obtain ⟨io,e1,c1,d1⟩:=id h1'
  obtain ⟨lo,e2,_,m2,d2⟩:=(show s.heap.IsTuple l xs from h2)
  have ty:=h1'.typeIs
  unfold Builtin.SmallTypes.nextOf;refine wpAny_bind (wpAny_callSpecial?_slot (name:=Str.ofString "__next__") ty F.slot_tuple_iterator_next (wpAny_call_entry F.slot_tuple_iterator_next ty F.entry_tuple_iterator_next ?_ (F.args_tuple_iterator_next_1 _)))
  show wpAny _ _ (field (Value.ref it) 0 >>= _) _ _ _
  refine wpAny_bind (wpAny_field e1 d1 (x:=.ref l) rfl ?_)
  show wpAny _ _ (if (Value.ref l==Value.none)=true then _ else _) _ _ _
  rw [if_neg (show ¬(Value.ref l==Value.none)=true from Bool.false_ne_true)]
  show wpAny _ _ (field (Value.ref it) 1 >>= _) _ _ _
  refine wpAny_bind (wpAny_field e1 d1 (x:=.int k 0) rfl ?_)
  show wpAny _ _ (seqItems? (Value.ref l) >>= _) _ _ _
  refine wpAny_bind (wpAny_seqItems e2 d2 ?_)
  simp only [Int.toNat_natCast,hx]
  refine wpAny_bind (wpAny_rule (wpAny_bind (wpAny_setField e1 d1 (by simp) ?_)));show wpAny _ _ (newExc (.type "StopIteration") [] >>= _) _ _ _;refine wpAny_bind ?_;simp only [newExc,newTuple]
  refine wpAny_bind (wpAny_newObj_type ?_ (by size_fits));refine wpAny_bind (m:=firstArgMember _ _) (wpAny_of_eq (a:=Value.none) (by first|rfl|(simp only [firstArgMember];rfl)) ?_)
  refine wpAny_newObj_type ?_ (by size_fits);simp only [raiseNew];refine wpAny_bind (wpAny_handled ?_);first|rw [show A.in1.handled=none from hh]|rw [hh]
  refine wpAny_bind (wpAny_pure (wpAny_throw ?_))
  exact q _ _ (((Heap.SameBut.update ..).extBut.push _).push _) ⟨_,Heap.get?_push_size _ rfl,rfl⟩
structure ZAt (k1 k2:Bool)(z TI TO i1 i2 l1 l2:Addr)(n:Nat)(h:Heap):Prop where
 z:IsZip h z TI TO .none
 ti:IsPair h TI (.ref i1) (.ref i2)
 to:∃a b,IsPair h TO a b
 a:Sc k1 h i1 l1 n
 b:Sc k2 h i2 l2 n
theorem X3 {k1 k2:Bool}{z TI TO i1 i2 l1 l2:Addr}{n:Nat}{xs ys:Array Value}{x y:Value}{Q:Option Value→Shared→Prop}(D:ZipApart z TI TO i1 i2 l1 l2)(Z:ZAt k1 k2 z TI TO i1 i2 l1 l2 n s.heap)
  (hl1:N9 k1 s.heap l1 xs) (hl2:N9 k2 s.heap l2 ys) (hx:xs[n]? =some x) (hy:ys[n]? =some y)
  (q:∀g,IsZip g z TI TO (rawInt s.heap.objs.size)→IsPair g TO x y→Sc k1 g i1 l1 (n+1)→Sc k2 g i2 l2 (n+1)→IsPair g s.heap.objs.size x y →
   (∀c o,c≠z→c≠TO→c≠i1→c≠i2→s.heap.get? c=some o→g.get? c=some o)→Q (some (.ref s.heap.objs.size)) { s with heap:=g }) :
  wpAny (model prog w) A (pyNext (.ref z)) Q E s:=by
 obtain ⟨Zz,Zi,⟨a,b,Zo⟩,Za,Zb⟩:=Z
 have hT:s.TypeIs (.ref z) "zip":=⟨_,Zz,rfl⟩
 unfold pyNext;refine wpAny_bind (wpAny_attempt (wpAny_callSpecial?_slot (name:=Str.ofString "__next__") hT F.slot_zip_next (wpAny_call_entry F.slot_zip_next hT F.entry_zip_next ?_ (F.args_zip_next_1 _))))
 show wpAny _ _ (field (Value.ref z) 2 >>= _) _ _ _
 refine wpAny_bind (wpAny_field Zz rfl (x:=.bool false) rfl ?_)
 show wpAny _ _ (field (Value.ref z) 3 >>= _) _ _ _
 refine wpAny_bind (wpAny_field Zz rfl (x:=.ref TI) rfl ?_)
 refine wpAny_bind (wpAny_seqItems Zi rfl ?_)
 show wpAny _ _ (Builtin.SmallTypes.ownedTupleIsFree (Value.ref z) >>= _) _ _ _
 refine wpAny_bind ?_;unfold Builtin.SmallTypes.ownedTupleIsFree
 refine wpAny_bind (wpAny_field Zz rfl (x:=.none) rfl (wpAny_pure ?_));simp only [if_true];refine wpAny_bind (wpAny_rule ?_)
 refine wpAny_bind (wpAny_field Zz rfl (x:=.ref TO) rfl ?_)
 refine wpAny_bind (wpAny_setField_rec Zz (by simp) fun g1 z1 s1=>?_)
 have z1:IsZip g1 z TI TO .ellipsis:=z1
 refine wpAny_bind ?_;simp only [List.zipIdx_cons,List.zipIdx_nil,List.forIn_cons,List.forIn_nil]
 refine wpAny_bind (wpAny_bind (wpAny_onRaise ?_));show wpAny _ _ (Builtin.SmallTypes.nextOf (Value.ref i1) >>= _) _ _ _
 refine wpAny_bind (Hy (Za.mv fun o e=>s1.extBut _ _ D.i1z e) (hl1.mv fun o e=>s1.extBut _ _ D.l1z e) hx fun g2 a2 s2=>wpAny_pure ?_)
 have o2:IsPair g2 TO a b:=s2.extBut _ _ D.TOi1 (s1.extBut _ _ D.TOz Zo)
 refine wpAny_bind (wpAny_seqItems o2 rfl ?_)
 refine wpAny_bind (wpAny_updateSeq_pair o2 fun g3 o3 s3=>?_)
 have o3:IsPair g3 TO x b:=o3
 refine wpAny_bind (wpAny_letGo (wpAny_pure ?_))
 refine wpAny_bind (wpAny_bind (wpAny_onRaise ?_));show wpAny _ _ (Builtin.SmallTypes.nextOf (Value.ref i2) >>= _) _ _ _
 refine wpAny_bind (Hy (Zb.mv fun o e=>s3.extBut _ _ D.TOi2.symm (s2.extBut _ _ D.i12.symm (s1.extBut _ _ D.i2z e))) (hl2.mv fun o e=>s3.extBut _ _ D.l2TO (s2.extBut _ _ D.l2i1 (s1.extBut _ _ D.l2z e))) hy fun g4 a4 s4=>wpAny_pure ?_)
 have o4:IsPair g4 TO x b:=s4.extBut _ _ D.TOi2 o3
 refine wpAny_bind (wpAny_seqItems o4 rfl ?_)
 refine wpAny_bind (wpAny_updateSeq_pair o4 fun g5 o5 s5=>?_)
 have o5:IsPair g5 TO x y:=o5
 refine wpAny_bind (wpAny_letGo (wpAny_pure (wpAny_pure ?_)))
 refine wpAny_bind (wpAny_seqItems o5 rfl ?_)
 refine wpAny_bind (wpAny_newTuple ?_)
 have sz:g5.objs.size=s.heap.objs.size:=by rw [s5.1,s4.1,s3.1,s2.1,s1.1]
 have z5:IsZip g5 z TI TO .ellipsis:=s5.extBut _ _ D.TOz.symm (s4.extBut _ _ D.i2z.symm (s3.extBut _ _ D.TOz.symm (s2.extBut _ _ D.i1z.symm z1)))
 have kp:∀c o,c≠z→c≠TO→c≠i1→c≠i2→s.heap.get? c=some o→g5.get? c=some o:=fun c o n1 n2 n3 n4 e=>s5.extBut _ _ n2 (s4.extBut _ _ n4 (s3.extBut _ _ n2 (s2.extBut _ _ n3 (s1.extBut _ _ n1 e))))
 have a5:Sc k1 g5 i1 l1 (n+1):=a2.mv fun o e=>s5.extBut _ _ D.TOi1.symm (s4.extBut _ _ D.i12 (s3.extBut _ _ D.TOi1.symm e))
 have b5:Sc k2 g5 i2 l2 (n+1):=a4.mv fun o e=>s5.extBut _ _ D.TOi2.symm e
 have zlt:z<g5.objs.size:=Heap.lt_size z5
 show wpAny _ _ (Builtin.SmallTypes.ownedTupleHandOut (Value.ref z) (Value.ref g5.objs.size) >>= _) _ _ _
 refine wpAny_bind ?_;unfold Builtin.SmallTypes.ownedTupleHandOut
 have z6:IsZip (g5.push { cls:=.type "tuple",data:=.seq #[x,y] }) z TI TO .ellipsis:=Heap.get?_push_of_some _ z5
 refine wpAny_bind (wpAny_setField_rec z6 (by simp) fun g7 z7 s7=>?_)
 have z7:IsZip g7 z TI TO (rawInt g5.objs.size):=z7
 refine wpAny_setField_rec z7 (by simp) fun g8 z8 s8=>?_
 have z8:IsZip g8 z TI TO (rawInt g5.objs.size):=z8
 have up:∀c o,c≠z→g5.get? c=some o→g8.get? c=some o:=fun c o n1 e=>s8.extBut _ _ n1 (s7.extBut _ _ n1 (Heap.get?_push_of_some _ e))
 have t8:IsPair g8 g5.objs.size x y:=s8.extBut _ _ (Nat.ne_of_gt zlt) (s7.extBut _ _ (Nat.ne_of_gt zlt) (Heap.get?_push_size _ rfl))
 rw [sz] at z8 t8
 refine wpAny_pure ⟨_,rfl,?_⟩
 show wpAny _ _ (pure (some (Value.ref g5.objs.size))) _ _ _
 rw [sz]
 exact wpAny_pure (q g8 z8 (up _ _ D.TOz o5) (a5.mv fun o e=>up _ o D.i1z e) (b5.mv fun o e=>up _ o D.i2z e) t8 fun c o n1 n2 n3 n4 e=>up c o n1 (kp c o n1 n2 n3 n4 e))
theorem Zt {k1 k2:Bool}{z TI TO i1 i2 l1 l2:Addr}{n:Nat}{xs ys:Array Value}{Q:Option Value→Shared→Prop}(hh:A.handled=none)(D:ZipApart z TI TO i1 i2 l1 l2)(Z:ZAt k1 k2 z TI TO i1 i2 l1 l2 n s.heap)
  (hl1:N9 k1 s.heap l1 xs) (hl2:N9 k2 s.heap l2 ys) (hend:xs[n]? =none∨ys[n]? =none)
  (q:∀g,(∀c o,c≠z→c≠TO→c≠i1→c≠i2→s.heap.get? c=some o→g.get? c=some o)→Q none { s with heap:=g }):wpAny (model prog w) A (pyNext (.ref z)) Q E s:=by
 obtain ⟨Zz,Zi,⟨a,b,Zo⟩,Za,Zb⟩:=Z
 have hT:s.TypeIs (.ref z) "zip":=⟨_,Zz,rfl⟩
 unfold pyNext;refine wpAny_bind (wpAny_attempt (wpAny_callSpecial?_slot (name:=Str.ofString "__next__") hT F.slot_zip_next (wpAny_call_entry F.slot_zip_next hT F.entry_zip_next ?_ (F.args_zip_next_1 _))))
 show wpAny _ _ (field (Value.ref z) 2 >>= _) _ _ _
 refine wpAny_bind (wpAny_field Zz rfl (x:=.bool false) rfl ?_)
 show wpAny _ _ (field (Value.ref z) 3 >>= _) _ _ _
 refine wpAny_bind (wpAny_field Zz rfl (x:=.ref TI) rfl ?_)
 refine wpAny_bind (wpAny_seqItems Zi rfl ?_)
 show wpAny _ _ (Builtin.SmallTypes.ownedTupleIsFree (Value.ref z) >>= _) _ _ _
 refine wpAny_bind ?_;unfold Builtin.SmallTypes.ownedTupleIsFree
 refine wpAny_bind (wpAny_field Zz rfl (x:=.none) rfl (wpAny_pure ?_));simp only [if_true];refine wpAny_bind (wpAny_rule ?_)
 refine wpAny_bind (wpAny_field Zz rfl (x:=.ref TO) rfl ?_)
 refine wpAny_bind (wpAny_setField_rec Zz (by simp) fun g1 z1 s1=>?_)
 have z1:IsZip g1 z TI TO .ellipsis:=z1
 refine wpAny_bind ?_;simp only [List.zipIdx_cons,List.zipIdx_nil,List.forIn_cons,List.forIn_nil]
 refine wpAny_bind (wpAny_bind (wpAny_onRaise ?_));show wpAny _ _ (Builtin.SmallTypes.nextOf (Value.ref i1) >>= _) _ _ _
 cases hx:xs[n]? with
 |none=>
  refine wpAny_bind (Oj hh (Za.mv fun o e=>s1.extBut _ _ D.i1z e) (hl1.mv fun o e=>s1.extBut _ _ D.l1z e) hx fun g2 e s2 ⟨oe,he,ce⟩=>?_)
  have z2:IsZip g2 z TI TO .ellipsis:=s2 _ _ D.i1z.symm z1
  have ne:e≠z:=fun x=>by subst x;rw [z2] at he;cases he;simp at ce
  refine wpAny_setField_rec z2 (by simp) fun g3 _ s3=>?_
  exact wpAny_bind (wpAny_isInstance (T:="StopIteration") (b:=true) ⟨oe,s3.extBut _ _ ne he,ce⟩ isSubtype_stop (wpAny_pure (q g3 fun c o n1 _ n3 _ x=>s3.extBut _ _ n1 (s2 _ _ n3 (s1.extBut _ _ n1 x)))))
 |some x=>
  have hy:ys[n]? =none:=by rcases hend with h|h;rw [hx] at h;cases h;exact h
  refine wpAny_bind (Hy (Za.mv fun o e=>s1.extBut _ _ D.i1z e) (hl1.mv fun o e=>s1.extBut _ _ D.l1z e) hx fun g2 a2 s2=>wpAny_pure ?_)
  have o2:IsPair g2 TO a b:=s2.extBut _ _ D.TOi1 (s1.extBut _ _ D.TOz Zo)
  refine wpAny_bind (wpAny_seqItems o2 rfl ?_)
  refine wpAny_bind (wpAny_updateSeq_pair o2 fun g3 o3 s3=>?_)
  refine wpAny_bind (wpAny_letGo (wpAny_pure ?_))
  refine wpAny_bind (wpAny_bind (wpAny_onRaise ?_));show wpAny _ _ (Builtin.SmallTypes.nextOf (Value.ref i2) >>= _) _ _ _
  refine wpAny_bind (Oj hh (Zb.mv fun o e=>s3.extBut _ _ D.TOi2.symm (s2.extBut _ _ D.i12.symm (s1.extBut _ _ D.i2z e))) (hl2.mv fun o e=>s3.extBut _ _ D.l2TO (s2.extBut _ _ D.l2i1 (s1.extBut _ _ D.l2z e))) hy fun g4 e s4 ⟨oe,he,ce⟩=>?_)
  have z4:IsZip g4 z TI TO .ellipsis:=s4 _ _ D.i2z.symm (s3.extBut _ _ D.TOz.symm (s2.extBut _ _ D.i1z.symm z1))
  have ne:e≠z:=fun x=>by subst x;rw [z4] at he;cases he;simp at ce
  refine wpAny_setField_rec z4 (by simp) fun g5 _ s5=>?_
  exact wpAny_bind (wpAny_isInstance (T:="StopIteration") (b:=true) ⟨oe,s5.extBut _ _ ne he,ce⟩ isSubtype_stop (wpAny_pure (q g5 fun c o n1 n2 n3 n4 x=>s5.extBut _ _ n1 (s4 _ _ n4 (s3.extBut _ _ n2 (s2.extBut _ _ n3 (s1.extBut _ _ n1 x)))))))
def itO (kd:Bool)(l:Addr):Obj:=match kd with
 |true=>{ cls:=.type "list_iterator",data:=.fields #[.ref l,.int 0 0] }
 |false=>{ cls:=.type "tuple_iterator",data:=.fields #[.ref l,.int 0 0] }
theorem Afe {kd:Bool}{l:Addr}{xs:Array Value}{Q:Value→Shared→Prop}(h:N9 kd s.heap l xs)(q:Q (.ref s.heap.objs.size) { s with heap:=s.heap.push (itO kd l) }):wpAny (model prog w) A (pyIter (.ref l)) Q E s:=by
 cases kd with
 |true=>exact wpAny_pyIter_list h q
 |false=>exact wpAny_pyIter_tuple h q
theorem Aca {kd:Bool}{h:Heap}{i l:Addr}(e:h.get? i=some (itO kd l)):Sc kd h i l 0:=by
 cases kd with
 |true=>exact ⟨_,e,rfl,rfl⟩
 |false=>exact ⟨_,e,rfl,rfl⟩
end
abbrev zK1 (k1:Bool)(h:Heap)(l1:Addr):Heap:=h.push (itO k1 l1)
abbrev zK2 (k1 k2:Bool)(h:Heap)(l1 l2:Addr):Heap:=(zK1 k1 h l1).push (itO k2 l2)
abbrev zK3 (k1 k2:Bool)(h:Heap)(l1 l2:Addr):Heap:=(zK2 k1 k2 h l1 l2).push { cls:=.type "tuple",data:=.seq #[.ref h.objs.size,.ref (zK1 k1 h l1).objs.size] }
abbrev zK4 (k1 k2:Bool)(h:Heap)(l1 l2:Addr):Heap:=(zK3 k1 k2 h l1 l2).push { cls:=.type "tuple",data:=.seq #[.none,.none] }
abbrev zK5 (k1 k2:Bool)(h:Heap)(l1 l2:Addr):Heap:=(zK4 k1 k2 h l1 l2).push { cls:=.type "zip",data:=.fields #[.none,.bool false,.bool false,.ref (zK2 k1 k2 h l1 l2).objs.size,.ref (zK3 k1 k2 h l1 l2).objs.size] }
theorem Ab4 (k1 k2:Bool)(l1 l2:Addr)(xs ys:Array Value) :
  Meets (Builtin.«zip.__new__» ⟨[.type "zip",.ref l1,.ref l2],[]⟩) (fun _ R s=>N9 k1 s.heap l1 xs∧N9 k2 s.heap l2 ys∧R (.ok (.ret (.ref (zK4 k1 k2 s.heap l1 l2).objs.size))) { s with heap:=zK5 k1 k2 s.heap l1 l2 }):=
 .of_wp fun prog w A R s h=>by
  obtain ⟨hp,g,d,tk,os⟩:=s;obtain ⟨a1,a2,h⟩:=h
  have hsub:=sub_zip
  have b1:N9 k1 (Shared.heap ⟨hp,g,d,tk,os⟩) l1 xs:=a1
  have b2:N9 k2 (Shared.heap ⟨hp.push (itO k1 l1),g,d,tk,os⟩) l2 ys:=a2.mv fun o e=>Heap.get?_push_of_some _ e
  wp_walk using Afe b1,Afe b2
  exact ⟨_,rfl,h⟩
section
variable {prog:Program}{w:World}{A:Around}{E:Value→Shared→Prop}{s:Shared}
theorem Xx {k1 k2:Bool}{l1 l2:Addr}{xs ys:Array Value}{Q:Value→Shared→Prop}(h1:N9 k1 s.heap l1 xs)(h2:N9 k2 s.heap l2 ys)
  (q:∀g,ZAt k1 k2 (s.heap.objs.size+4) (s.heap.objs.size+2) (s.heap.objs.size+3) s.heap.objs.size (s.heap.objs.size+1) l1 l2 0 g→(∀c o,s.heap.get? c=some o→g.get? c=some o)→Q (.ref (s.heap.objs.size+4)) { s with heap:=g }) :
  wpAny (model prog w) A (call (.type "zip") [.ref l1,.ref l2]) Q E s:=by
 refine callType_new F.called_zip (by decide) (F.typeCall_zip_2 _ _) (F.newCall_zip_2 _ _) (fun obj=>F.args_object_init_3 obj _ _) F.entry_zip_new (Ab4 k1 k2 l1 l2 xs ys) ⟨h1,h2,?_⟩
 have m1:(zK1 k1 s.heap l1).objs.size=s.heap.objs.size+1:=Heap.size_push ..
 have m2:(zK2 k1 k2 s.heap l1 l2).objs.size=s.heap.objs.size+2:=by rw [Heap.size_push,m1]
 have m3:(zK3 k1 k2 s.heap l1 l2).objs.size=s.heap.objs.size+3:=by rw [Heap.size_push,m2]
 have m4:(zK4 k1 k2 s.heap l1 l2).objs.size=s.heap.objs.size+4:=by rw [Heap.size_push,m3]
 have fz:∀l,(itO k1 l).isFreed=false:=fun l=>by cases k1<;>rfl
 have fz2:∀l,(itO k2 l).isFreed=false:=fun l=>by cases k2<;>rfl
 have g5:(zK5 k1 k2 s.heap l1 l2).get? (zK4 k1 k2 s.heap l1 l2).objs.size=some _:=Heap.get?_push_size _ rfl
 have g4:(zK5 k1 k2 s.heap l1 l2).get? (zK3 k1 k2 s.heap l1 l2).objs.size=some _:=Heap.get?_push_of_some _ (Heap.get?_push_size _ rfl)
 have g3:(zK5 k1 k2 s.heap l1 l2).get? (zK2 k1 k2 s.heap l1 l2).objs.size=some _:=Heap.get?_push_of_some _ (Heap.get?_push_of_some _ (Heap.get?_push_size _ rfl))
 have g2:(zK5 k1 k2 s.heap l1 l2).get? (zK1 k1 s.heap l1).objs.size=some (itO k2 l2):=Heap.get?_push_of_some _ (Heap.get?_push_of_some _ (Heap.get?_push_of_some _ (Heap.get?_push_size _ (fz2 _))))
 have g1:(zK5 k1 k2 s.heap l1 l2).get? s.heap.objs.size=some (itO k1 l1):=Heap.get?_push_of_some _ (Heap.get?_push_of_some _ (Heap.get?_push_of_some _ (Heap.get?_push_of_some _ (Heap.get?_push_size _ (fz _)))))
 show _∧_
 rw [m2,m3,m4] at g5
 rw [m1,m2] at g3
 rw [m3] at g4
 rw [m1] at g2
 rw [m4]
 exact ⟨⟨_,g5,rfl⟩,q _ ⟨g5,g3,⟨_,_,g4⟩,Aca g1,Aca g2⟩ fun c o x=>Heap.get?_push_of_some _ (Heap.get?_push_of_some _ (Heap.get?_push_of_some _ (Heap.get?_push_of_some _ (Heap.get?_push_of_some _ x))))⟩
end
section
variable {X:Cx}
theorem G9 {pins:List (Addr×Obj)}{σ:L2.St}{H:Hp}{s:Shared}{h':Heap}{t':Nat}{fp:List Addr}(I:Ar X pins σ H s)(k:∀b o,b∉fp→s.heap.get? b=some o→h'.get? b=some o)(hf:∀b∈fp,Jw X pins H b) :
  Ar X pins σ H { s with heap:=h',toks:=t' }:=by
 have nit:∀b u,H b=some u→b∉fp:=fun b u e z=>by rw [(hf b z).1] at e;cases e
 refine I.step (g':=s.gens) (d':=s.drawn) (ch:=fp) (fun b hb=>?_) (fun b o _ _ hc e _=>k b o hc e) (fun b o _ _ hc e _=>⟨o.slots,k b o hc e⟩) (fun _ _ _ _ n=>n) (fun b o hc e=>⟨o,k b o hc e⟩) (fun _ _ e=>e) (fun _ _ _ e=>e)
  (fun b ps e=>⟨#[],by rw [e];simp⟩) (fun m hm=>?_) (fun b u e=>?_) I.bare
 ·obtain ⟨_,f1,f2,f3,f4,f5⟩:=hf b hb
  exact ⟨f3,f1,f4,f5⟩
 ·obtain ⟨o,es,ep,ho,r⟩:=hm
  exact ⟨o,es,ep,k _ o (fun z=>(hf _ z).2.1 rfl) ho,r⟩
 ·refine (I.hok b u e).stay (fun c v hc q=>k c v ?_ q) (fun _ q=>q) fun _ _ q=>q
  rcases hc with z|z
  ·rw [z];exact nit b u e
  ·exact nit c _ z
theorem Lp {pins:List (Addr×Obj)}{σ:L2.St}{H:Hp}{s:Shared}{h':Heap}{t':Nat}{fp:List Addr}{a:Addr}{o:HO}(I:Ar X pins σ H s)(k:∀b o,b∉fp→s.heap.get? b=some o→h'.get? b=some o)(hf:∀b∈fp,Jw X pins H b)
  (hp:s.heap.objs.size≤a) (new:Bb X.prog X.w (upd H a o) h' a o):Ar X pins σ (upd H a o) { s with heap:=h',toks:=t' }:=by
 have hn:=I.hok.fresh hp
 have nit:∀b u,H b=some u→b∉fp:=fun b u e z=>by rw [(hf b z).1] at e;cases e
 have old:∀b u,H b=some u→upd H a o b=some u:=fun b u e=>by rw [Ak (Bh e hn)];exact e
 refine I.step (g':=s.gens) (d':=s.drawn) (ch:=fp) (fun b hb=>?_) (fun b o _ _ hc e _=>k b o hc e) (fun b o _ _ hc e _=>⟨o.slots,k b o hc e⟩) (fun b u _ e n=>?_) (fun b o hc e=>⟨o,k b o hc e⟩) (fun b xs e=>old b _ e) (fun b ob u e=>old b _ e)
  (fun b ps e=>⟨#[],by rw [old b _ e];simp⟩) (fun m hm=>?_) (fun b u e=>?_) I.bare
 ·obtain ⟨_,f1,f2,f3,f4,f5⟩:=hf b hb
  exact ⟨f3,f1,f4,f5⟩
 ·rw [Ak (Nat.ne_of_lt (Nat.lt_of_lt_of_le (Heap.lt_size e) hp))]
  exact n
 ·obtain ⟨o,es,ep,ho,r⟩:=hm
  exact ⟨o,es,ep,k _ o (fun z=>(hf _ z).2.1 rfl) ho,r⟩
 ·by_cases hb:b=a
  ·subst hb;rw [Ad] at e;cases e;exact new
  ·rw [Ak hb] at e
   refine (I.hok b u e).stay (fun c v hc q=>k c v ?_ q) (fun c q=>old c _ q) fun c xs q=>old c _ q
   rcases hc with z|z
   ·rw [z];exact nit b u e
   ·exact nit c _ z
theorem F6 {kd:Bool}{pins:List (Addr×Obj)}{σ:L2.St}{H:Hp}{s:Shared}{a:Addr}{xs:List V}(I:Ar X pins σ H s)(h:Yh kd X.K H a xs):∃its:List Value,A4 xs its∧N9 kd s.heap a its.toArray:=by
 cases kd with
 |true=>obtain ⟨its,r,p,_⟩:=I.list h;exact ⟨its,r,p.isList⟩
 |false=>obtain ⟨its,r,p,_⟩:=I.tuple h;exact ⟨its,r,p⟩
theorem Vp {kd:Bool}{pins:List (Addr×Obj)}{σ:L2.St}{H:Hp}{s:Shared}{a:Addr}{xs ys:List V}(I:Ar X pins σ H s)(h:Yh kd X.K H a xs)(h':Yh kd X.K H a ys):xs=ys:=by
 cases kd with
 |true=>exact I.list_inj h h'
 |false=>exact I.tuple_inj h h'
def Itz (k1 k2:Bool)(K:PySem.W.Frag)(a b:Addr):It:=
 ⟨fun i H=>∃xs ys x y,Yh k1 K H a xs∧Yh k2 K H b ys∧xs[i]? =some x∧ys[i]? =some y,
  fun i H v H'=>∃t x y,v=.ref t∧H t=none∧H'=upd H t (.tup [x,y])∧(∀xs,Yh k1 K H a xs→xs[i]? =some x)∧∀ys,Yh k2 K H b ys→ys[i]? =some y,
  fun i H=>∃xs ys,Yh k1 K H a xs∧Yh k2 K H b ys∧(xs.length≤i∨ys.length≤i)⟩
theorem X7 {n l1 l2:Nat}(h1:l1<n)(h2:l2<n):ZipApart (n+4) (n+2) (n+3) n (n+1) l1 l2:=by
 constructor<;>(show @Ne Nat _ _)<;>omega
theorem Ab5 {P:Program}{w:World}{K:PySem.W.Frag}{es:List Expr}{x1}{pos:Pos}{k1 k2:Bool}{z TI TO i1 i2 a b:Addr}(D:ZipApart z TI TO i1 i2 a b) :
  Ur P w K (.Tuple es x1 pos) (Itz k1 k2 K a b) [z,TI,TO,i1,i2] z (ZAt k1 k2 z TI TO i1 i2 a b) where
 mem:=by simp
 obj:=fun i h Z c hc=>by
  have hc:c=z∨c=TI∨c=TO∨c=i1∨c=i2:=by simpa using hc
  rcases hc with rfl|rfl|rfl|rfl|rfl
  ·exact ⟨_,Z.z,fun v e=>by cases e⟩
  ·exact ⟨_,Z.ti,fun v e=>by cases e⟩
  ·obtain ⟨u,v,e⟩:=Z.to
   exact ⟨_,e,fun v e=>by cases e⟩
  ·exact Z.a.ob
  ·exact Z.b.ob
 keep:=fun i h h' Z k=>by
  obtain ⟨u,v,e⟩:=Z.to
  exact ⟨k z (by simp) _ Z.z,k TI (by simp) _ Z.ti,⟨u,v,k TO (by simp) _ e⟩,Z.a.mv fun o q=>k i1 (by simp) o q,Z.b.mv fun o q=>k i2 (by simp) o q⟩
 item:=by
  intro X hP hw hK hc i pins s σ H E I hf Z hg
  subst hP hw hK
  obtain ⟨xs,ys,x,y,q1,q2,e1,e2⟩:=hg
  obtain ⟨us,r1,p1⟩:=F6 I q1
  obtain ⟨vs,r2,p2⟩:=F6 I q2
  obtain ⟨u,hu,ru⟩:=r1.get e1
  obtain ⟨v,hv,rv⟩:=r2.get e2
  have F:=fun c (m:c∈[z,TI,TO,i1,i2])=>hf c m
  have hfr:H s.heap.objs.size=none:=I.hok.fresh (Nat.le_refl _)
  refine X3 D Z p1 p2 (x:=u) (y:=v) (by simpa using hu) (by simpa using hv) fun g a1 a2 a3 a4 a5 kp=>⟨_,rfl,?_⟩
  have zlt:z<s.heap.objs.size:=Heap.lt_size Z.z
  have tlt:TO<s.heap.objs.size:=by obtain ⟨_,_,e⟩:=Z.to;exact Heap.lt_size e
  have ilt:i1<s.heap.objs.size:=by obtain ⟨_,e,_⟩:=Z.a.ob;exact Heap.lt_size e
  have jlt:i2<s.heap.objs.size:=by obtain ⟨_,e,_⟩:=Z.b.ob;exact Heap.lt_size e
  refine wpAny_letOwnedTupleGo_zip (s:={ s with heap:=g }) a1 fun g' z' s'=>?_
  have kp':∀c o,c≠z→c≠TO→c≠i1→c≠i2→s.heap.get? c=some o→g'.get? c=some o:=fun c o n1 n2 n3 n4 e=>s'.extBut _ _ n1 (kp c o n1 n2 n3 n4 e)
  have a5':IsPair g' s.heap.objs.size u v:=s'.extBut _ _ (Nat.ne_of_gt zlt) a5
  have I1:Ar X pins σ (upd H s.heap.objs.size (.tup [x,y])) { s with heap:=g' }:=by
   refine Lp I (fp:=[z,TO,i1,i2]) (fun c o hc e=>kp' c o (fun x=>hc (by simp [x])) (fun x=>hc (by simp [x])) (fun x=>hc (by simp [x])) (fun x=>hc (by simp [x])) e) ?_ (Nat.le_refl _) ?_
   ·intro c hc
    exact hf c (by simp at hc ⊢;rcases hc with h|h|h|h<;>simp [h])
   ·exact ⟨by show 2≤sizeLine;decide,[u,v],.cons ru (.cons rv .nil),⟨_,a5',rfl,_,rfl⟩⟩
  refine ⟨.ref s.heap.objs.size,_,I1,rfl,⟨_,x,y,rfl,hfr,rfl,fun zs hz=>by rw [Vp I hz q1];exact e1,fun zs hz=>by rw [Vp I hz q2];exact e2⟩,?_,?_⟩
  ·exact ⟨z',kp' _ _ D.TIz D.TITO D.TIi1 D.TIi2 Z.ti,⟨_,_,s'.extBut _ _ D.TOz a2⟩,a3.mv fun o e=>s'.extBut _ _ D.i1z e,a4.mv fun o e=>s'.extBut _ _ D.i2z e⟩
  ·intro c hc
   have hlt:c<s.heap.objs.size:=by
    have hc:c=z∨c=TI∨c=TO∨c=i1∨c=i2:=by simpa using hc
    rcases hc with rfl|rfl|rfl|rfl|rfl
    ·exact zlt
    ·exact Heap.lt_size Z.ti
    ·exact tlt
    ·exact ilt
    ·exact jlt
   rw [Ak (Nat.ne_of_lt hlt)]
   exact (hf c hc).1
 done:=by
  intro X hP hw hK hc i pins s σ H E I hf Z hg
  subst hP hw hK
  obtain ⟨xs,ys,q1,q2,e⟩:=hg
  obtain ⟨us,r1,p1⟩:=F6 I q1
  obtain ⟨vs,r2,p2⟩:=F6 I q2
  have l1:=r1.length
  have l2:=r2.length
  have he:us.toArray[i]? =none∨vs.toArray[i]? =none:=by
   rcases e with e|e
   ·left
    simp
    omega
   ·right
    simp
    omega
  refine Zt (I.ok.hd hc) D Z p1 p2 he fun g kp=>⟨rfl,?_⟩
  refine G9 I (fp:=[z,TO,i1,i2]) (fun c o hc e=>kp c o (fun x=>hc (by simp [x])) (fun x=>hc (by simp [x])) (fun x=>hc (by simp [x])) (fun x=>hc (by simp [x])) e) ?_
  intro c hc
  exact hf c (by simp at hc ⊢;rcases hc with h|h|h|h<;>simp [h])
 self:=fun _ _ _ _ _ Z h=>wpAny_pyIter_zip Z.z h
def Alt (k1 k2:Bool)(K:PySem.W.Frag)(ta:TA):TI:=fun σ H R=>ta σ H fun vs H1=>match vs with
 |[.ref a,.ref b]=>(∃xs,Yh k1 K H1 a xs)∧(∃ys,Yh k2 K H1 b ys)∧R (Itz k1 k2 K a b) H1
 |_=>False
theorem Ail (k1 k2:Bool){a b:Expr}{ta:TA}{p pos:Pos}{es:List Expr}{x1}{tp:Pos}(hg:Gl X "zip")(hm:X.mg "zip"=none)(ha:PA X [a,b] ta)(hs:starEach [a,b] X.env=[(false,eval a X.env),(false,eval b X.env)]:=by rfl)
  (hs2:starEach [b] X.env=[(false,eval b X.env)]:=by rfl):PI X (.Tuple es x1 tp) (.Call (.Name "zip" p) [a,b] [] pos) (Alt k1 k2 X.K ta):=by
 intro pins s σ H R I h
 refine Call_ (E6 I hg hm boot_zip (PyProof.Rows.callWith_type1 (thn (ha pos pins s σ H _ I h) fun us s1 ⟨vs,H1,I1,r1,q1⟩=>?_) (by rw [hs,hs2]) (by rw [hs2];rfl)))
 match vs,q1 with
 | [.ref l1,.ref l2],⟨⟨xs,hx⟩,⟨ys,hy⟩,q⟩=>
  obtain ⟨u,v,rfl,e1,e2⟩:=Hk r1
  cases (show u=Value.ref l1 from e1)
  cases (show v=Value.ref l2 from e2)
  obtain ⟨us',_,p1⟩:=F6 I1 hx
  obtain ⟨vs',_,p2⟩:=F6 I1 hy
  have lt1:=p1.lt
  have lt2:=p2.lt
  refine Xx p1 p2 fun g Z kp=>wpAny_pyIter_zip (s:={ s1 with heap:=g }) Z.z ?_
  have I2:Ar X pins σ H1 { s1 with heap:=g }:=I1.kept (t':=s1.toks) kp
  refine ⟨_,[s1.heap.objs.size+4,s1.heap.objs.size+2,s1.heap.objs.size+3,s1.heap.objs.size,s1.heap.objs.size+1],_,_,H1,rfl,I2,Ab5 (X7 lt1 lt2),Z,fun c hc=>?_,q⟩
  have hc:@LE.le Nat _ s1.heap.objs.size c:=by
   have hc:c=s1.heap.objs.size+4∨c=s1.heap.objs.size+2∨c=s1.heap.objs.size+3∨c=s1.heap.objs.size∨c=s1.heap.objs.size+1:=by simpa using hc
   rcases hc with h|h|h|h|h<;>rw [h]<;>first|exact Nat.le_refl _|exact Nat.le_add_right _ _
  exact I1.fpOk hc (I1.hok.fresh hc)
end
section
variable {X:Cx}
def Ajd:R2:=fun x y H Q=>match x,y with
 |.ref l,.ref b=>∃xs zs,H l=some (.lst xs)∧H b=some (.lst zs)∧xs.length+zs.length≤1000∧∀p H',Ah H H'→H' p=some (.lst (xs++zs))→Q (.ref p) H'
 |_,_=>False
theorem Qf:Dv X (binaryOp .Add) Ajd:=by
 intro pins s σ H x y v u Q I rx ry q
 cases x<;>cases y<;>first
  |exact False.elim q
  | (obtain ⟨xs,zs,h1,h2,h3,q⟩:=q
     exact Agg _ _ _ _ _ _ _ _ _ I rx ry ⟨_,_,xs,zs,rfl,rfl,h1,h2,Nat.le_trans h3 (by decide),fun p hp=>q p _ (Am hp) Ad⟩)
def Alf (K:PySem.W.Frag):V→Option Int→Option Int→Hp→VK→Prop:=fun x lo hi H Q=>match x with
 |.ref a=>∃xs,Ay K H a xs∧∀p H',Ah H H'→H' p=some (.lst (Hd xs lo hi))→Q (.ref p) H'
 |_=>False
theorem Us:SlR X (Alf X.K):=by
 intro pins s σ H x v vl vu lo hi sl Q I rx hs pl pu h
 cases x<;>first
  |exact False.elim h
  | (obtain ⟨xs,h1,q⟩:=h
     exact Ack _ _ _ _ _ _ _ _ _ _ _ _ I rx hs pl pu ⟨_,xs,rfl,h1,fun p hp=>q p _ (Am hp) Ad⟩)
end
end Lw
end
section
namespace Lw
open PySem PySem.Spec PyProof.Rows L2
section
variable {X:Cx}{pos:Pos}
end
end Lw
end
section
namespace Lw
open PySem PySem.Spec PyProof.Rows L2
section
variable {prog:Program}{w:World}{A:Around}{R:Result→Shared→Prop}{s:Shared}
theorem Aeb (elt tg iter:Expr)(scope:Scope)(pos:Pos)(it acc:Value)(env:Env) :
  compTurn (.ListComp elt [⟨tg,iter,[],0⟩] scope pos) 0 it acc env=(standAt iter.pos >>= fun _=>pyNext it >>= fun r=>match r with
   |none=>pure (.done .next)
   |some v=>letOwnedTupleGo tg it v >>= fun _=>assign tg env v >>= fun _=>(eval elt env >>= fun x=>call (.builtin "list.append") [acc,x] >>= fun _=>pure ()) >>= fun _=>again (.compLoop (.ListComp elt [⟨tg,iter,[],0⟩] scope pos) 0 it acc env)):=rfl
theorem X1 {elt tg iter:Expr}{scope:Scope}{pos:Pos}{it acc:Value}{env:Env}(I:Nat→Shared→Prop)
  (turn:∀n s,I n s→wpAny (model prog w) A (pyNext it) (fun r s1=>(r=none∧R (.ok .next) s1)∨∃v,r=some v∧wpAny (model prog w) A (letOwnedTupleGo tg it v) (fun _ s2=>wpAny (model prog w) A (assign tg env v) (fun _ s3=>
   wpAny (model prog w) A (eval elt env) (fun x s4=>wpAny (model prog w) A (call (.builtin "list.append") [acc,x]) (fun _ s5=>∃m,m<n∧I m s5) (fun _ _=>False) s4) (fun _ _=>False) s3) (fun _ _=>False) s2) (fun _ _=>False) s1) (fun _ _=>False) s)
  (n:Nat) (h:I n s):codeAny (model prog w) A (.compLoop (.ListComp elt [⟨tg,iter,[],0⟩] scope pos) 0 it acc env) R s:=by
 refine codeAny_loop rfl I (fun n s hI=>?_) n h
 show wpAny _ _ ((compTurn (.ListComp elt [⟨tg,iter,[],0⟩] scope pos) 0 it acc env).onRaise (fun x=>do noteFrame x env;theTreesLotGoes x)) _ _ s
 refine wpAny_noted ?_
 rw [Aeb]
 refine wpAny_bind (wpAny_standAt (wpAny_bind (wpAny_mono (turn n s hI) (fun r s1 h1=>?_) fun _ _ z=>z.elim)))
 rcases h1 with ⟨rfl,h1⟩|⟨v,rfl,h1⟩
 ·exact wpAny_pure h1
 ·refine wpAny_bind (wpAny_mono h1 (fun _ s2 h2=>?_) fun _ _ z=>z.elim)
  refine wpAny_bind (wpAny_mono h2 (fun _ s3 h3=>?_) fun _ _ z=>z.elim)
  refine wpAny_bind (wpAny_bind (wpAny_mono h3 (fun x s4 h4=>?_) fun _ _ z=>z.elim))
  refine wpAny_bind (wpAny_mono h4 (fun _ s5 h5=>?_) fun _ _ z=>z.elim)
  exact wpAny_pure (wpAny_pure ⟨rfl,h5⟩)
end
abbrev Gi (X:Cx)(N:List Str)(s₀:Shared)(H₀:Hp)(env:Env)(fp:List Addr):Cx:=
 { X with N:=N,s₀:=s₀,H₀:=H₀,env:=env,outer:=X.stack,ex:=fp,fn:=fun _=>false,pn:=[],xe:=fun _ _=>False }
structure Cap (X:Cx)(sc:Scope)(cl:List (Str×Addr))(j:Nat)(y:Str):Prop where
 nm:X.N[j]? =some y
 ko:X.env.kindOf y=some .cell
 ki:sc.names.lookup y=some .cell
 cl:cl.lookup y=X.env.cells.lookup y
def capσ (js:List Nat)(σ:L2.St):L2.St:=js.map fun j=>(σ[j]?).join
@[irreducible] def Ez (J:It) (g:TG) (te:TE) (k:Nat) (js:List Nat) (σ:L2.St) (H1:Hp) (Q:VK):Prop:=∀D,H1 D=none→∃W:Nat→Nat→Hp→Prop,(∃m,W 0 m (upd H1 D (.lst [])))∧∀i m H,W i m H →
 (J.stop i H∧Q (.ref D) H)∨(J.go i H∧∀x H',J.yld i H x H'→g x (List.replicate k none++capσ js σ) H' fun σ2 H2=>σ2.drop k=capσ js σ∧te σ2 H2 fun v H3=>∃xs,H3 D=some (.lst xs)∧xs.length<sizeLine∧∃m',m'<m∧W (i+1) m' (upd H3 D (.lst (xs++[v]))))
def S3 (wi:TI)(g:TG)(te:TE)(k:Nat)(js:List Nat):TE:=fun σ H Q=>wi σ H fun J H1=>Ez J g te k js σ H1 Q
section
variable {X:Cx}
theorem Wk {pins:List (Addr×Obj)}{σ:L2.St}{H:Hp}{s:Shared}{N:List Str}{scope:Scope}{cl:List (Str×Addr)}{C:Addr}{fp:List Addr}(I:Ar X pins σ H s)(hk:scope.kind=.function)(hC:s.heap.objs.size≤C)
  (hcl:∀y c,cl.lookup y=some c→X.env.cells.lookup y=some c) (hhas:∀y,((relabel scope X.env).names.lookup y=some .cell∨(relabel scope X.env).names.lookup y=some .free)→∃c,cl.lookup y=some c)
  (hf:∀b∈fp,Jw X pins H b∧b<s.heap.objs.size):(Gi X N s H (compEnvC scope cl C X.env) fp).Ok where
 mod:=I.ok.mod
 kind:=hk
 glob:=I.ok.glob
 blt:=I.ok.blt
 above:=hC
 inj:=fun x y c e1 e2=>I.ok.inj x y c (hcl x c e1) (hcl y c e2)
 has:=fun x h=>hhas x h
 cab:=fun x c z=>absurd z (by simp)
 hd:=I.ok.hd
 frames:=I.ok.frames
 stk:=.inl rfl
 exf:=fun b hb=>⟨Nat.ne_of_lt (Nat.lt_of_lt_of_le (hf b hb).2 hC),fun x c e=>(hf b hb).1.2.2.2.2.1 x c (hcl x c e)⟩
 bs:=I.bs
 bsz:=Nat.le_trans I.ok.bsz I.sz
 noex:=fun b o e hb=>by
  rcases (hf b hb).1.2.2.2.1 with z|z
  ·exact I.ok.noex b o e z
  ·exact absurd (Nat.lt_of_lt_of_le (Heap.lt_size (I.ok.bs b o e).1) z) (Nat.lt_irrefl _)
 exfs:=fun b hb hm=>by
  rcases List.mem_cons.mp (I.stkSub b hm) with z|z
  ·exact (hf b hb).1.2.1 z
  ·exact (hf b hb).1.2.2.1 z
 funs:=I.stack
 frf:=I.stkFree
theorem Oy {elt iter tg:Expr}{scope:Scope}{pos:Pos}{wi:TI}{te:TE}{g:TG}{N:List Str}{cl:List (Str×Addr)}(k:Nat)(js:List Nat)(hi:PI X tg iter wi)
  (hg:∀C s H fp,PG (Gi X N s H (compEnvC scope cl C X.env) fp) tg g) (he:∀C s H fp,PE (Gi X N s H (compEnvC scope cl C X.env) fp) elt te) (hcalm:X.calm=true)
  (hclos:closureFor scope X.env=pure cl) (hkind:scope.kind=.function) (hcell:∀y∈scope.names,y.2≠.cell) (hnames:∀y∈scope.names,y.2=.local→scope.names.lookup y.1=some .local)
  (hcl:∀y c,cl.lookup y=some c→X.env.cells.lookup y=some c) (hhas:∀y,((relabel scope X.env).names.lookup y=some .cell∨(relabel scope X.env).names.lookup y=some .free)→∃c,cl.lookup y=some c)
  (hlen:N.length=k+js.length) (hcap:∀i j,js[i]? =some j→∃y,N[k+i]? =some y∧Cap X (relabel scope X.env) cl j y)
  (hs:∀x,foldedSetIterable iter X.env x=pure x) {pins:List (Addr×Obj)} {s:Shared} {σ:L2.St} {H:Hp} {Q:VK} (I:Ar X pins σ H s) (h:S3 wi g te k js σ H Q) {cpos:Pos} {use:Option (Value→Sem Unit)} {Qv:Value→Shared→Prop}
  (fin:∀(s6:Shared) (H5:Hp) (D C:Addr) (m:Str→Option Value),Ar X pins σ H5 s6→s6.heap.Ns C m→H5 C=none→X.s₀.heap.objs.size≤C→C≠X.env.locals→(∀x c,X.env.cells.lookup x=some c→c≠C)→(∀p∈X.pn++pins,p.1≠C)→Q (.ref D) H5 →
   compPost (model X.prog X.w) X.A X.xe use Qv (.ref D) C (.ok .next) s6) :
  wpAny (model X.prog X.w) X.A (comprehension (.ListComp elt [⟨tg,iter,[],0⟩] scope pos) scope X.env cpos (newList []) false (eval iter X.env) use) Qv X.xe s:=by
 refine wpAny_comprehension_free (use:=use) rfl hs hclos hkind hnames (thn (hi pins s σ H _ I h) fun v s1 h1=>thn h1 fun itv s2 h2=>?_)
 obtain ⟨it,fp,tn,J,H2,rfl,I2,T,st2,f2,h2⟩:=h2
 refine wpAny_newObj_type ?_
 have hD:H2 s2.heap.objs.size=none:=I2.hok.fresh (Nat.le_refl _)
 unfold Ez at h2
 obtain ⟨W,⟨m0,w0⟩,turn⟩:=h2 _ hD
 have I3:Ar X pins σ (upd H2 s2.heap.objs.size (.lst [])) { s2 with heap:=s2.heap.push { cls:=.type "list",dict:=none,data:=.seq ([]:List Value).toArray } } :=
  I2.laid (t':=s2.toks) (fun b u e=>Heap.get?_push_of_some _ e) (Nat.le_refl _) ⟨Nat.zero_le _,[],0,.nil,Heap.get?_push_size _ rfl⟩
 have hlt:∀b∈fp,b<s2.heap.objs.size:=fun b hb=>by
  obtain ⟨o,e,_⟩:=T.obj _ _ st2 b hb
  exact Heap.lt_size e
 have f3:∀b∈fp,Jw X pins (upd H2 s2.heap.objs.size (.lst [])) b:=fun b hb=>⟨by rw [Ak (Nat.ne_of_lt (hlt b hb))];exact (f2 b hb).1,(f2 b hb).2⟩
 have st3:tn 0 (s2.heap.push { cls:=.type "list",dict:=none,data:=.seq ([]:List Value).toArray }):=T.keep _ _ _ st2 fun b hb o e=>Heap.get?_push_of_some _ e
 have hlt3:∀b∈fp,b<(s2.heap.push { cls:=.type "list",dict:=none,data:=.seq ([]:List Value).toArray }).objs.size:=fun b hb=>Nat.lt_of_lt_of_le (hlt b hb) (by rw [Heap.size_push];exact Nat.le_succ _)
 generalize hs3:({ s2 with heap:=s2.heap.push { cls:=.type "list",dict:=none,data:=.seq ([]:List Value).toArray } }:Shared)=s3 at I3
 have eh:s3.heap=s2.heap.push { cls:=.type "list",dict:=none,data:=.seq ([]:List Value).toArray }:=by rw [←hs3]
 rw [←eh] at st3 hlt3
 generalize hDD:s2.heap.objs.size=D at *
 generalize hH3:upd H2 D (.lst [])=H3 at *
 clear hs3 eh
 refine wpAny_newFunctionEnv (s:=s3) hcell (by intro y hy;simp at hy) (fun h4 n4 sb4=>?_) hkind
 have Ok:=Wk (N:=N) (C:=s3.heap.objs.size) I3 hkind (Nat.le_refl _) hcl hhas fun b hb=>⟨f3 b hb,hlt3 b hb⟩
 show codeAny _ _ (.compStart (.ListComp elt [⟨tg,iter,[],0⟩] scope pos) 0 (.ref it) (.ref D) (compEnvC scope cl s3.heap.objs.size X.env)) _ _
 generalize hC:s3.heap.objs.size=C at *
 have old:∀b o,s3.heap.get? b=some o→h4.get? b=some o:=fun b o e=>sb4.extBut b o (by rw [←hC];exact Nat.ne_of_lt (Heap.lt_size e)) (Heap.get?_push_of_some _ e)
 have fresh:H3 C=none:=I3.hok.fresh (by rw [hC];exact Nat.le_refl _)
 have hcapl:∀{i:Nat} {x:Str} {v:V},N[i]? =some x→(List.replicate k none++capσ js σ)[i]? =some (some v)→∃u,L2.RelV v u∧Agt (compEnvC scope cl C X.env) h4 (fun _=>none) x u:=by
  intro i x v e1 e2
  by_cases hik:i<k
  ·rw [List.getElem?_append_left (by simpa using hik)] at e2
   rw [List.getElem?_replicate] at e2
   simp [hik] at e2
  ·rw [List.getElem?_append_right (by simpa using Nat.le_of_not_lt hik),List.length_replicate] at e2
   unfold capσ at e2
   rw [List.getElem?_map] at e2
   cases ej:js[i-k]? with
   |none=>
    rw [ej] at e2
    cases e2
   | some j=>
    rw [ej] at e2
    have e2:(σ[j]?).join=some v:=Option.some.inj e2
    obtain ⟨y,hy,cp⟩:=hcap _ _ ej
    rw [show k+(i-k)=i by omega,e1] at hy
    cases hy
    obtain ⟨m,_,hl⟩:=I3.loc
    have e3:σ[j]? =some (some v):=by
     cases q:σ[j]? with
     |none=>
      rw [q] at e2
      cases e2
     |some o=>
      rw [q] at e2
      have:o=some v:=e2
      rw [this]
    obtain ⟨u,ru,lk⟩:=hl j x v cp.nm e3 (.inr (.inl cp.ko))
    refine ⟨u,ru,?_⟩
    rcases lk with ⟨z,_⟩|⟨_,c,hc,z⟩
    ·rw [cp.ko] at z
     cases z
    ·refine .inr ⟨.inl cp.ki,c,by rw [←hc];exact cp.cl,?_⟩
     obtain ⟨o,e,d⟩:=z
     exact ⟨o,old _ _ e,d⟩
 have I4:Ar (Gi X N s3 H3 (compEnvC scope cl C X.env) fp) [] (List.replicate k none++capσ js σ) H3 { s3 with heap:=h4,toks:=s3.toks+([]:List (Str×Value)).length }:=by
  refine ⟨Ok,rfl,I3.bare,Un.kept old,⟨_,n4,fun i x v e1 e2 e3=>?_⟩,fun x c e=>?_,fresh,fun x c e=>I3.freeC x c (hcl x c e),fun p hp=>absurd hp (by simp),I3.hok.kept old,?_⟩
  ·obtain ⟨u,ru,lk⟩:=hcapl e1 e2
   refine ⟨u,ru,?_⟩
   rcases lk with ⟨z,q⟩|q
   ·cases q
   ·exact .inr q
  ·obtain ⟨v,o,e1,d⟩:=I3.cell x c (hcl x c e)
   exact ⟨v,o,old _ _ e1,d⟩
  ·simp [capσ,hlen]
 have fp4:∀{H':Hp},(∀b∈fp,H' b=none)→∀b∈fp,Jw (Gi X N s3 H3 (compEnvC scope cl C X.env) fp) [] H' b:=fun hn b hb=>
  ⟨hn b hb,(Ok.exf b hb).1,Ok.exfs b hb,.inl hb,fun x c e=>(Ok.exf b hb).2 x c e,fun p hp=>absurd hp (by simp)⟩
 have st4:tn 0 h4:=T.keep _ _ _ st3 fun b hb o e=>old b o e
 have run:∀s4:Shared,s4={ s3 with heap:=h4,toks:=s3.toks+([]:List (Str×Value)).length } →
   codeAny (model X.prog X.w) X.A (.compLoop (.ListComp elt [⟨tg,iter,[],0⟩] scope pos) 0 (.ref it) (.ref D) (compEnvC scope cl C X.env)) (compPost (model X.prog X.w) X.A X.xe use Qv (.ref D) C) s4:=by
  rintro s4 rfl
  refine X1 (fun n s'=>∃i H' σ',Ar (Gi X N s3 H3 (compEnvC scope cl C X.env) fp) [] σ' H' s'∧(∀j:Nat,∀v,(List.replicate k none++capσ js σ)[j]? =some (some v)→σ'[j]? =some (some v))∧tn i s'.heap∧(∀b∈fp,H' b=none)∧W i n H') ?_ m0
   ⟨0,H3,_,I4,fun _ _ z=>z,st4,fun b hb=>(f3 b hb).1,w0⟩
  rintro n s5 ⟨i,H5,σ5,I5,cap5,st5,fr5,w5⟩
  have I5':=I5.weak (σ':=List.replicate k none++capσ js σ) (by rw [I5.len];simp [capσ,hlen]) cap5
  rcases turn i n H5 w5 with ⟨stop,q⟩|⟨go,step⟩
  ·refine thn (T.done (Gi X N s3 H3 (compEnvC scope cl C X.env) fp) rfl rfl rfl hcalm i [] s5 σ5 H5 _ I5 (fp4 fr5) st5 stop) fun r s6 ⟨hr,I6⟩=>.inl ⟨hr,?_⟩
   obtain ⟨m6,n6,_⟩:=I6.loc
   have hCf:H5 C=none:=I6.free
   have u6:=I6.base
   have uC:Un (Kr X.stack) fp H3 H5 s3.heap s6.heap:=⟨u6.keep,u6.slot,u6.free,u6.there,u6.tups,u6.frzs,u6.tbls⟩
   have I7:Ar X pins σ H5 s6:=I3.call' (s':=s6) I6.os uC I6.hok I6.bare fun b hb=>⟨(f3 b hb).2.2.2.1,(f3 b hb).2.1,(f3 b hb).2.2.2.2.1,(f3 b hb).2.2.2.2.2⟩
   have lt3:∀b o,s3.heap.get? b=some o→b≠C:=fun b o e=>by rw [←hC];exact Nat.ne_of_lt (Heap.lt_size e)
   refine fin s6 H5 D C m6 I7 n6 hCf (by rw [←hC];exact I3.sz) (by rw [←hC];exact Nat.ne_of_gt I3.lt) (fun x c e=>?_) (fun p hp=>lt3 p.1 p.2 (I3.pin p hp).1) q
   obtain ⟨v,o,e1,_⟩:=I3.cell x c e
   exact lt3 c o e1
  ·refine thn (T.item (Gi X N s3 H3 (compEnvC scope cl C X.env) fp) rfl rfl rfl hcalm i [] s5 _ H5 _ I5' (fp4 fr5) st5 go) fun r s6 ⟨u,hr,h6⟩=>.inr ⟨u,hr,?_⟩
   refine thn h6 fun _ s7 ⟨x,H7,I7,r7,y7,st7,fr7⟩=>?_
   have I7':=I7.pinned (fp4 fr7) (T.obj _ _ st7)
   refine thn (hg C s3 H3 fp _ s7 _ H7 x u _ I7' r7 (step x H7 y7)) fun _ s8 ⟨σ8,H8,I8,d8,q8⟩=>?_
   refine thn (he C s3 H3 fp _ s8 σ8 H8 _ I8 q8) fun vv s9 ⟨vx,H9,I9,r9,xs,hx9,hz9,m',hm',w9⟩=>?_
   obtain ⟨z9,its,n9,rl,e9⟩:=(show Bb X.prog X.w H9 s9.heap D (.lst xs) from I9.hok D _ hx9)
   have app:=Dm (X:=Gi X N s3 H3 (compEnvC scope cl C X.env) fp) _ s9 σ8 H9 (.ref D) [vx] (.ref D) [vv] (fun _ H'=>H'=upd H9 D (.lst (xs++[vx]))) I9 rfl (.cons r9 .nil) ⟨D,xs,vx,rfl,rfl,hx9,hz9,rfl⟩
   refine thn app fun _ s10 ⟨_,H10,I10,_,e10⟩=>?_
   subst e10
   refine ⟨m',hm',i+1,_,σ8,I10.unpinned (pins:=[]),?_,T.keep _ _ _ st7 fun b hb o e=>(I10.pin (b,o) (List.mem_append_right _ (List.mem_append_right _ (Ch hb e)))).1,fun b hb=>?_,w9⟩
   ·intro j v e
    by_cases hjk:j<k
    ·rw [List.getElem?_append_left (by simpa using hjk),List.getElem?_replicate] at e
     simp [hjk] at e
    ·rw [List.getElem?_append_right (by simpa using Nat.le_of_not_lt hjk),List.length_replicate,←d8,List.getElem?_drop] at e
     rw [show k+(j-k)=j by omega] at e
     exact e
   ·obtain ⟨o,e,d⟩:=T.obj _ _ st7 b hb
    exact (I10.pin (b,o) (List.mem_append_right _ (List.mem_append_right _ (Ch hb e)))).2.1
 exact codeAny_compStart_list (run _ rfl) (T.self X.A 0 _ _ _ st4 (run _ rfl))
theorem Ah2 {elt iter tg:Expr}{scope:Scope}{pos:Pos}{wi:TI}{te:TE}{g:TG}{N:List Str}{cl:List (Str×Addr)}(k:Nat)(js:List Nat)(hi:PI X tg iter wi)
  (hg:∀C s H fp,PG (Gi X N s H (compEnvC scope cl C X.env) fp) tg g) (he:∀C s H fp,PE (Gi X N s H (compEnvC scope cl C X.env) fp) elt te) (hcalm:X.calm=true)
  (hclos:closureFor scope X.env=pure cl) (hkind:scope.kind=.function) (hcell:∀y∈scope.names,y.2≠.cell) (hnames:∀y∈scope.names,y.2=.local→scope.names.lookup y.1=some .local)
  (hcl:∀y c,cl.lookup y=some c→X.env.cells.lookup y=some c) (hhas:∀y,((relabel scope X.env).names.lookup y=some .cell∨(relabel scope X.env).names.lookup y=some .free)→∃c,cl.lookup y=some c)
  (hlen:N.length=k+js.length) (hcap:∀i j,js[i]? =some j→∃y,N[k+i]? =some y∧Cap X (relabel scope X.env) cl j y)
  (hs:∀x,foldedSetIterable iter X.env x=pure x:=by intro _;rfl):PE X (.ListComp elt [⟨tg,iter,[],0⟩] scope pos) (S3 wi g te k js):=by
 intro pins s σ H Q I h
 rw [eval_ListComp]
 refine Oy k js hi hg he hcalm hclos hkind hcell hnames hcl hhas hlen hcap hs I h fun s6 H5 D C m I6 n6 z1 z2 z3 z4 z5 q=>⟨m,n6,fun h7 sb7=>⟨.ref D,H5,?_,rfl,q⟩⟩
 exact I6.turned (t':=s6.toks) (fun b o hb e=>(sb7.2 b hb).trans e) z1 z3.symm.symm (.inr z2) z4 z5
theorem Aax {elt iter tg:Expr}{scope:Scope}{pos py spos:Pos}{i:Nat}{y:Str}{wi:TI}{te:TE}{g:TG}{N:List Str}{cl:List (Str×Addr)}(k:Nat)(js:List Nat)(hi:PI X tg iter wi)
  (hg:∀C s H fp,PG (Gi X N s H (compEnvC scope cl C X.env) fp) tg g) (he:∀C s H fp,PE (Gi X N s H (compEnvC scope cl C X.env) fp) elt te) (hcalm:X.calm=true)
  (hclos:closureFor scope X.env=pure cl) (hkind:scope.kind=.function) (hcell:∀y∈scope.names,y.2≠.cell) (hnames:∀y∈scope.names,y.2=.local→scope.names.lookup y.1=some .local)
  (hcl:∀y c,cl.lookup y=some c→X.env.cells.lookup y=some c) (hhas:∀y,((relabel scope X.env).names.lookup y=some .cell∨(relabel scope X.env).names.lookup y=some .free)→∃c,cl.lookup y=some c)
  (hlen:N.length=k+js.length) (hcap:∀i j,js[i]? =some j→∃y,N[k+i]? =some y∧Cap X (relabel scope X.env) cl j y)
  (hs:∀x,foldedSetIterable iter X.env x=pure x) (hN:X.N.Nodup) (hi':X.N[i]? =some y) (hy:X.env.scope.names.lookup y=some .local) (hsw:swapsWith (.ListComp elt [⟨tg,iter,[],0⟩] scope pos) (some (.Name y py)) spos.line X.env=pure true) :
  PS X (.Assign [.Name y py] (.ListComp elt [⟨tg,iter,[],0⟩] scope pos) spos) (Xy (S3 wi g te k js) (O3 i)):=by
 intro pins s σ H D I h
 rw [exec_Assign_Name_used _ _ _ _ hsw]
 refine wpAny_bind (wpAny_standAt (wpAny_bind ?_))
 show wpAny _ X.A (do let _ ←comprehension (.ListComp elt [⟨tg,iter,[],0⟩] scope pos) scope X.env _ (newList []) false (eval iter X.env) (some (assign (.Name y py) X.env))) _ _ s
 refine wpAny_bind (wpAny_mono (Oy k js hi hg he hcalm hclos hkind hcell hnames hcl hhas hlen hcap hs (use:=some (assign (.Name y py) X.env)) (Qv:=fun _ s'=>SP X pins D .next s') I h fun s6 H5 D' C m I6 n6 z1 z2 z3 z4 z5 q=>?_)
  (fun _ s' hq=>wpAny_pure (wpAny_pure hq)) fun _ _ e=>e)
 show wpAny _ X.A (assign (.Name y py) X.env (.ref D')) _ _ _
 refine wpAny_assign_Name (Kj I6 hN hi' (.inl hy) (v:=.ref D') rfl (fun s8 I8 ⟨a,sb,ha⟩=>?_) (.inr hy))
 have na:C≠a:=by
  rcases ha with rfl|ha
  ·exact z3
  ·exact Ne.symm (z4 _ _ ha)
 exact ⟨m,n6.sameBut sb na,fun h9 sb9=>⟨_,H5,I8.turned (t':=s8.toks) (fun b o hb e=>(sb9.2 b hb).trans e) z1 z3 (.inr z2) z4 z5,q⟩⟩
def L3 (X:Cx)(sc:Scope)(cl:List (Str×Addr)):List Str→List Nat→Prop
 |y::ys,j::js=>Cap X sc cl j y∧L3 X sc cl ys js
 |[],[]=>True
 |_,_=>False
theorem L3.len {sc:Scope}{cl:List (Str×Addr)}:∀{ys:List Str} {js:List Nat},L3 X sc cl ys js→ys.length=js.length
 |[],[],_=>rfl
 |_::_,_::_,h=>congrArg (· + 1) (L3.len h.2)
 |[],_::_,h=>h.elim
 |_::_,[],h=>h.elim
theorem L3.at {sc:Scope}{cl:List (Str×Addr)}:∀{ys:List Str} {js:List Nat},L3 X sc cl ys js→∀(i j:Nat),js[i]? =some j→∃y,ys[i]? =some y∧Cap X sc cl j y
 |[],[],_,i,j,e=>by simp at e
 |y::ys,j::js,h,0,j',e=>by
  cases e
  exact ⟨y,rfl,h.1⟩
 |y::ys,j::js,h,i+1,j',e=>L3.at h.2 i j' (by simpa using e)
 |[],_::_,h,_,_,_=>h.elim
 |_::_,[],h,_,_,_=>h.elim
def Ku (cells:List (Str×Addr)):List (Str×Addr)→Prop
 |[]=>True
 |(y,c)::r=>cells.lookup y=some c∧Ku cells r
theorem Ku.at {cells:List (Str×Addr)}:∀{cl:List (Str×Addr)},Ku cells cl→∀y c,cl.lookup y=some c→cells.lookup y=some c
 |[],_,y,c,e=>by simp at e
 | (z,d)::r,h,y,c,e=>by
  rw [List.lookup_cons] at e
  cases q:y==z with
  |true=>
   rw [q] at e
   cases e
   rw [eq_of_beq q]
   exact h.1
  |false=>
   rw [q] at e
   exact Ku.at h.2 y c e
theorem Et {y:Str}:∀{cl:List (Str×Addr)},(cl.map (·.1)).contains y=true→∃c,cl.lookup y=some c
 |[],h=>by simp at h
 | (z,d)::r,h=>by
  rw [List.lookup_cons]
  cases q:y==z with
  |true=>exact ⟨d,rfl⟩
  |false=>
   refine Et (cl:=r) ?_
   rw [List.map_cons,List.contains_cons,q,Bool.false_or] at h
   exact h
theorem Bo {env:Env}{y:Str}:∀{names:List (Str×NameKind)} {k:NameKind},(names.map fun (n,k)=>if (k==NameKind.free&&env.scope.kind==.function&&env.kindOf n==some .cell) then (n,NameKind.cell) else (n,k)).lookup y=some k →
  (k=.cell∨k=.free)→∃z∈names,z.1=y∧(z.2=.free∨z.2=.cell)
 |[],_,h,_=>by simp at h
 | (n,kd)::r,k,h,hk=>by
  rw [List.map_cons] at h
  by_cases hc:(kd==NameKind.free&&env.scope.kind==.function&&env.kindOf n==some .cell)=true
  ·rw [show (match (n,kd) with|(n,k)=>if (k==NameKind.free&&env.scope.kind==.function&&env.kindOf n==some .cell)=true then (n,NameKind.cell) else (n,k))=(n,NameKind.cell) from if_pos hc,List.lookup_cons] at h
   cases q:y==n with
   |true=>
    rw [Bool.and_eq_true,Bool.and_eq_true] at hc
    exact ⟨(n,kd),List.mem_cons_self,(eq_of_beq q).symm,.inl (eq_of_beq hc.1.1)⟩
   |false=>
    rw [q] at h
    obtain ⟨z,hz,r1⟩:=Bo (names:=r) h hk
    exact ⟨z,List.mem_cons_of_mem _ hz,r1⟩
  ·rw [show (match (n,kd) with|(n,k)=>if (k==NameKind.free&&env.scope.kind==.function&&env.kindOf n==some .cell)=true then (n,NameKind.cell) else (n,k))=(n,kd) from if_neg hc,List.lookup_cons] at h
   cases q:y==n with
   |true=>
    rw [q] at h
    cases h
    exact ⟨(n,kd),List.mem_cons_self,(eq_of_beq q).symm,hk.symm⟩
   |false=>
    rw [q] at h
    obtain ⟨z,hz,r1⟩:=Bo (names:=r) h hk
    exact ⟨z,List.mem_cons_of_mem _ hz,r1⟩
theorem Fy {elt iter tg:Expr}{scope:Scope}{pos:Pos}{wi:TI}{te:TE}{g:TG}{cl:List (Str×Addr)}(own ys:List Str)(js:List Nat)(hclos:closureFor scope X.env=pure cl)(hi:PI X tg iter wi)
  (hg:∀C s H fp,PG (Gi X (own++ys) s H (compEnvC scope cl C X.env) fp) tg g) (he:∀C s H fp,PE (Gi X (own++ys) s H (compEnvC scope cl C X.env) fp) elt te) (hcalm:X.calm=true) (hkind:scope.kind=.function)
  (hcell:(scope.names.all fun y=>y.2 != .cell)=true) (hnames:(scope.names.all fun y=>y.2 != .local||scope.names.lookup y.1==some .local)=true) (hfr:(scope.names.all fun y=>y.2 != .free||(cl.map (·.1)).contains y.1)=true)
  (hcl:Ku X.env.cells cl) (hcap:L3 X (relabel scope X.env) cl ys js) (hs:∀x,foldedSetIterable iter X.env x=pure x:=by intro _;rfl) :
  PE X (.ListComp elt [⟨tg,iter,[],0⟩] scope pos) (S3 wi g te own.length js):=by
 rw [List.all_eq_true] at hcell hnames hfr
 have hc:∀y∈scope.names,y.2≠.cell:=fun y hy z=>by
  have:=hcell y hy
  rw [z] at this
  cases this
 refine Ah2 own.length js hi hg he hcalm hclos hkind hc (fun y hy z=>?_) hcl.at (fun y h=>?_) (by rw [List.length_append,hcap.len]) (fun i j e=>?_) hs
 ·have:=hnames y hy
  rw [z] at this
  simpa using this
 ·obtain ⟨z,hz,rfl,hk⟩:∃z∈scope.names,z.1=y∧(z.2=.free∨z.2=.cell):=by
   rcases h with h|h
   ·exact Bo h (.inl rfl)
   ·exact Bo h (.inr rfl)
  rcases hk with hk|hk
  ·have:=hfr z hz
   rw [hk] at this
   exact Et (by simpa using this)
  ·exact absurd hk (hc z hz)
 ·obtain ⟨y,h1,h2⟩:=hcap.at i j e
  exact ⟨y,by rw [List.getElem?_append_right (Nat.le_add_right _ _),Nat.add_sub_cancel_left];exact h1,h2⟩
theorem Mw {elt iter tg:Expr}{scope:Scope}{pos py spos:Pos}{i:Nat}{y:Str}{wi:TI}{te:TE}{g:TG}{cl:List (Str×Addr)}(own ys:List Str)(js:List Nat)(hclos:closureFor scope X.env=pure cl)(hi:PI X tg iter wi)
  (hg:∀C s H fp,PG (Gi X (own++ys) s H (compEnvC scope cl C X.env) fp) tg g) (he:∀C s H fp,PE (Gi X (own++ys) s H (compEnvC scope cl C X.env) fp) elt te) (hcalm:X.calm=true) (hkind:scope.kind=.function)
  (hcell:(scope.names.all fun y=>y.2 != .cell)=true) (hnames:(scope.names.all fun y=>y.2 != .local||scope.names.lookup y.1==some .local)=true) (hfr:(scope.names.all fun y=>y.2 != .free||(cl.map (·.1)).contains y.1)=true)
  (hcl:Ku X.env.cells cl) (hcap:L3 X (relabel scope X.env) cl ys js) (hN:X.N.Nodup) (hi':X.N[i]? =some y) (hy:X.env.scope.names.lookup y=some .local) (hs:∀x,foldedSetIterable iter X.env x=pure x:=by intro _;rfl) (hsw:swapsWith (.ListComp elt [⟨tg,iter,[],0⟩] scope pos) (some (.Name y py)) spos.line X.env=pure true:=by rfl) :
  PS X (.Assign [.Name y py] (.ListComp elt [⟨tg,iter,[],0⟩] scope pos) spos) (Xy (S3 wi g te own.length js) (O3 i)):=by
 rw [List.all_eq_true] at hcell hnames hfr
 have hc:∀y∈scope.names,y.2≠.cell:=fun y hy z=>by
  have:=hcell y hy
  rw [z] at this
  cases this
 refine Aax own.length js hi hg he hcalm hclos hkind hc (fun y hy z=>?_) hcl.at (fun y h=>?_) (by rw [List.length_append,hcap.len]) (fun i j e=>?_) hs hN hi' hy hsw
 ·have:=hnames y hy
  rw [z] at this
  simpa using this
 ·obtain ⟨z,hz,rfl,hk⟩:∃z∈scope.names,z.1=y∧(z.2=.free∨z.2=.cell):=by
   rcases h with h|h
   ·exact Bo h (.inl rfl)
   ·exact Bo h (.inr rfl)
  rcases hk with hk|hk
  ·have:=hfr z hz
   rw [hk] at this
   exact Et (by simpa using this)
  ·exact absurd hk (hc z hz)
 ·obtain ⟨y,h1,h2⟩:=hcap.at i j e
  exact ⟨y,by rw [List.getElem?_append_right (Nat.le_add_right _ _),Nat.add_sub_cancel_left];exact h1,h2⟩
theorem S0 {lo:Int}{n:Nat}{g:TG}{te:TE}{k:Nat}{js:List Nat}{σ:L2.St}{H1:Hp}{Q:VK}(f:Nat→V)(hz:n≤1000)
  (hs:∀i H2,i<n→Ah H1 H2→∀P:VK,P (f i) H2→g (.int (lo+i)) (List.replicate k none++capσ js σ) H2 fun σ2 H3=>σ2.drop k=capσ js σ∧te σ2 H3 P)
  (hq:∀D H',Ah H1 H'→H' D=some (.lst ((List.range n).map f))→Q (.ref D) H') :
  Ez (Itr lo n) g te k js σ H1 Q:=by
 unfold Ez
 intro D hD
 refine ⟨fun i m H=>m=n-i∧i≤n∧H=upd H1 D (.lst ((List.range i).map f)),⟨n,by simp,Nat.zero_le _,rfl⟩,?_⟩
 rintro i m H ⟨rfl,hi,rfl⟩
 by_cases hlt:i<n
 ·refine .inr ⟨hlt,fun x H' y=>?_⟩
  obtain ⟨e1,e2⟩:=y
  subst e1 e2
  refine hs i _ hlt (Am hD) _ ⟨_,Ad,?_,n-(i+1),by omega,rfl,hlt,?_⟩
  ·rw [List.length_map,List.length_range]
   exact Nat.lt_of_lt_of_le hlt (Nat.le_trans hz (by decide))
  ·rw [Qa,List.range_succ,List.map_append]
   rfl
 ·have e:i=n:=by omega
  subst e
  exact .inl ⟨Nat.le_refl _,hq D _ (Am hD) Ad⟩
end
end Lw
end
section
namespace Lw
open PySem PySem.Spec PyProof.Rows L2
section
variable {X:Cx}{pos p2 p3 p4:Pos}{e:Expr}{te:TE}
def Al9:V→Option Int→Option Int→Hp→VK→Prop:=fun x lo hi H Q=>match x with
 |.str z=>z.length≤sizeLine∧Q (.str (Txt.slice z lo hi)) H
 |_=>False
theorem U0:SlR X Al9:=by
 intro pins s σ H x v vl vu lo hi sl Q I rx hs pl pu h
 cases x<;>first
  |exact False.elim h
  | (obtain ⟨hz,q⟩:=h
     obtain ⟨t,rfl⟩:=rx
     refine ⟨"str",_,F.slot_str_getitem.lookup,typeIs_str _ _ _,?_⟩
     cases pl<;>cases pu
     ·exact wpAny_getItem_str_slice (l:=none) (u:=none) (st:=none) hs rfl (post_val_or_str ⟨Nat.le_trans (Txt.slice_le _ _ _) hz,fun t' k=>⟨.str _,H,I.tok _,⟨_,rfl⟩,q⟩⟩)
     ·exact wpAny_getItem_str_slice (l:=none) (u:=some (_,_)) (st:=none) hs rfl (post_val_or_str ⟨Nat.le_trans (Txt.slice_le _ _ _) hz,fun t' k=>⟨.str _,H,I.tok _,⟨_,rfl⟩,q⟩⟩)
     ·exact wpAny_getItem_str_slice (l:=some (_,_)) (u:=none) (st:=none) hs rfl (post_val_or_str ⟨Nat.le_trans (Txt.slice_le _ _ _) hz,fun t' k=>⟨.str _,H,I.tok _,⟨_,rfl⟩,q⟩⟩)
     ·exact wpAny_getItem_str_slice (l:=some (_,_)) (u:=some (_,_)) (st:=none) hs rfl (post_val_or_str ⟨Nat.le_trans (Txt.slice_le _ _ _) hz,fun t' k=>⟨.str _,H,I.tok _,⟨_,rfl⟩,q⟩⟩))
def Akk:R2:=fun x y H Q=>match x,y with
 |.str i,.str j=>i.length+j.length≤sizeLine∧Q (.str (i++j)) H
 |_,_=>False
theorem Aai:Dv X (binaryOp .Add) Akk:=by
 intro pins s σ H x y v u Q I rx ry q
 cases x<;>cases y<;>first
  |exact False.elim q
  |exact Vb _ _ _ _ _ _ _ _ _ I rx ry ⟨_,_,rfl,rfl,q.1,q.2⟩
def Amk:R2:=fun x y H Q=>match x,y with
 |.str z,.int i=>∃c,z.length≤sizeLine∧Nv z.cps.toList i=some c∧Q (.str ⟨#[c]⟩) H
 |_,_=>False
theorem Afg:IxR X Amk:=by
 intro value slice pins s σ H x y v u Q I rx ry h hs
 cases x<;>cases y<;>first
  |exact False.elim h
  | (obtain ⟨c,h1,h2,q⟩:=h
     exact Afo value slice pins s σ H _ _ v u Q I rx ry ⟨_,_,c,rfl,rfl,h1,h2,q⟩ hs)
theorem Py:∀{ys:List Str} {us:List Value},A4 (ys.map V.str) us→StrsAre us ys
 |[],_,r=>by
  cases r
  exact .nil
 | y::ys,_,r=>by
  cases r with
  |cons r1 r2=>
   obtain ⟨t,rfl⟩:=r1
   exact .cons y t (Py r2)
def Ae7 (K:PySem.W.Frag):V→List V→Hp→VK→Prop:=fun x xs H Q=>match x,xs with
 |.str sep,[.ref p]=>∃ys:List Str,Ay K H p (ys.map V.str)∧(ys.map (·.length)).sum+ys.length*sep.length≤16777216∧Q (.str (Txt.join sep ys)) H
 |_,_=>False
theorem Afm:MtR X "str.join" (Ae7 X.K):=by
 intro pins s σ H x xs v us Q I rx rs h
 match x,xs,h with
 |.str sep,[.ref p],⟨ys,h1,h2,q⟩=>
  obtain ⟨t,rfl⟩:=rx
  obtain ⟨u,rfl,r1⟩:=K1 rs
  cases r1
  obtain ⟨its,r,pl,_⟩:=I.list h1
  exact PyProof.Rows.join_list pl.isList (Py r) h2 fun t' k=>⟨.str _,H,I.tok _,⟨_,rfl⟩,q⟩
theorem Agf {o:Expr}{to ta:_}{name:Str}{apos cpos:Pos}(ho:PE X o to)(ha:PA X [e] ta)(hbase:attributeBase o "join" X.env (eval o X.env)=eval o X.env:=by rfl)
  (hfew:((backTo cpos (starEach [e] X.env)).all (fun x=>!x.1)&&(backToKw cpos (keywordEach [] X.env)).all (fun x=>x.1.isSome)&&decide ([e].length+([]:List Keyword).length+(if ([]:List Keyword).isEmpty then 0 else 1)<30))=true:=by rfl)
  (hline:(apos.endLine==cpos.line)=true:=by rfl) (hs:starEach [e] X.env=(false,eval e X.env)::starEach [] X.env:=by rfl) (hplain:(backTo cpos (starEach [] X.env)).any (·.1)=false:=by rfl) :
  PE X (.Call (.Attribute o "join" apos) [e] [] cpos) (tBM X.K "str" (Ae7 X.K) to ta):=G4 F.plainAttrs_str F.slot_str_join F.type_str_join Afm ho ha hbase hfew hline hs hplain
def Amh (K:PySem.W.Frag):R2:=fun x y H Q=>match y with
 |.ref p=>∃xs,(Ay K H p xs∨E4 K H p xs)∧G6 x=true∧xs.all G6=true∧Q (.bl (inV x xs)) H
 |_=>False
theorem Aj6:Dv X (compareOp .In) (Amh X.K):=by
 intro pins s σ H x y v u Q I rx ry q
 cases y<;>first
  |exact False.elim q
  | (obtain ⟨xs,h1,h2,h3,q⟩:=q
     exact Xq _ _ _ _ _ _ _ _ _ I rx ry ⟨_,xs,rfl,h1,h2,h3,q⟩)
end
end Lw
end
section
namespace Lw
open PySem PySem.Spec PyProof.Rows L2
def co (x:Str):List Nat:=x.cps.toList
theorem Md (x:Str):(co x).length=x.length:=by simp [co,Str.length]
theorem Lm (x y:Str):co (x++y)=co x++co y:=by
 show (x.cps++y.cps).toList=x.cps.toList++y.cps.toList
 rw [Array.toList_append]
theorem Ahn (c:Nat):co ⟨#[c]⟩=[c]:=rfl
theorem Adm (x y:Str):(x++y).length=x.length+y.length:=by
 rw [←Md,Lm,List.length_append,Md,Md]
theorem Aer (sep:Str):∀ys:List Str,co (Txt.join sep ys)=co (Str.join sep ys):=fun ys=>by
 show co (Builtin.Str.glued sep ys)=_
 rw [StrLaws.glued_eq_join]
theorem Ajl:∀ys:List Str,co (Txt.join (Str.ofString "") ys)=(ys.map co).flatten:=by
 intro ys
 rw [Aer]
 induction ys with
 |nil=>rfl
 | cons x r ih=>
  cases r with
  |nil=>simp [Str.join]
  |cons y r=>
   show co (x++Str.ofString ""++Str.join (Str.ofString "") (y::r))=_
   have e:co (Str.ofString "")=[]:=by decide +kernel
   rw [Lm,Lm,ih,e,List.append_nil]
   rfl
theorem Ad1 (a b:Nat):sliceRange (a:Int) (b:Int) 1=(List.range (b-a)).map (fun k=>a+k):=by
 unfold sliceRange
 simp only [show ((1:Int)>0)=True from by simp,if_true]
 by_cases h:(a:Int)<b
 ·have e3:(((b:Int)-a+1-1) / 1).toNat=b-a:=by omega
  simp only [h,if_true,e3]
  refine List.map_congr_left fun k _=>?_
  omega
 ·have:b-a=0:=by omega
  simp [h,this]
theorem Jk (n d:Nat)(i:Int):max (0:Int) (min (if i<0 then i+(n:Int) else i) (n:Int))=((HT.sIx n d (some i):Nat):Int):=by
 show _=(((if i<0 then (i+(n:Int)).toNat else min i.toNat n):Nat):Int)
 by_cases h:i<0
 ·simp only [if_pos h];omega
 ·simp only [if_neg h];omega
theorem Ado (lo hi:Option Int)(n:Nat):Builtin.Str.strSliceIndices lo hi 1 n=(List.range (HT.sIx n n hi-HT.sIx n 0 lo)).map (fun k=>HT.sIx n 0 lo+k):=by
 rw [←Ad1]
 unfold Builtin.Str.strSliceIndices
 simp only [show ((1:Int)>0)=True from by simp,if_true]
 cases lo with
 | none=>
  cases hi with
  |none=>rfl
  |some j=>
   show sliceRange 0 (max (0:Int) (min (if j<0 then j+(n:Int) else j) (n:Int))) 1=_
   rw [Jk n n j]
   rfl
 | some i=>
  cases hi with
  |none=>
   show sliceRange (max (0:Int) (min (if i<0 then i+(n:Int) else i) (n:Int))) (n:Int) 1=_
   rw [Jk n 0 i]
   rfl
  |some j=>
   show sliceRange (max (0:Int) (min (if i<0 then i+(n:Int) else i) (n:Int))) (max (0:Int) (min (if j<0 then j+(n:Int) else j) (n:Int))) 1=_
   rw [Jk n 0 i,Jk n n j]
theorem R5 (x:Str)(lo hi:Option Int):co (Txt.slice x lo hi)=((co x).drop (HT.sIx x.length 0 lo)).take (HT.sIx x.length x.length hi-HT.sIx x.length 0 lo):=by
 have ha:=HT.sIx_le x.length 0 (Nat.zero_le _) lo
 have hb:=HT.sIx_le x.length x.length (Nat.le_refl _) hi
 have hl:=Md x
 unfold Txt.slice
 rw [Ado]
 generalize HT.sIx x.length 0 lo=a at *
 generalize HT.sIx x.length x.length hi=b at *
 split
 ·rename_i h
  have h2:b-a=x.length:=by simpa using h
  have a0:a=0:=by omega
  subst a0
  rw [List.drop_zero,List.take_of_length_le (by omega)]
 ·have p:=StrLaws.picks (co x) (b-a) a (by omega)
  rw [←p]
  show (List.filterMap _ _).toArray.toList=_
  rw [List.toList_toArray]
  congr 1
  funext k
  show x.cps[k]? =x.cps.toList[k]?
  rw [Array.getElem?_toList]
theorem Afd {x:Str}{j:Nat}(h:j≤x.length):co (Txt.slice x none (some (j:Int)))=(co x).take j:=by
 rw [R5,HT.sIx_none,HT.sIx_nat,Nat.min_eq_left h,List.drop_zero,Nat.sub_zero]
theorem Af3 {x:Str}{i j:Nat}(h:i≤x.length)(h':j≤x.length):co (Txt.slice x (some (i:Int)) (some (j:Int)))=((co x).drop i).take (j-i):=by
 rw [R5,HT.sIx_nat,HT.sIx_nat,Nat.min_eq_left h,Nat.min_eq_left h']
def abc:Str:=Str.ofString "abcdefghijklmnopqrstuvwxyz"
def lt (n:Int):Nat:=97+(n % 26).toNat
structure Nm (x:Str):Prop where
 len1:1≤(co x).length
 len8:(co x).length≤8
 abc:∀c∈co x,97≤c∧c<123
theorem Ai6 {x:Str}(h:∀c∈co x,c<1114112):PyData.strOk x=true:=by
 unfold PyData.strOk
 rw [←Array.all_toList,List.all_eq_true]
 exact fun c hc=>decide_eq_true (h c hc)
end Lw
end
section
set_option autoImplicit false
namespace Lw
open PySem PySem.Spec PyProof.Rows L2
def vB:List Value:=[.type "ValueError",.type "Exception",.type "BaseException",.type "object"]
structure Ajb (K:PySem.W.Frag)(C:Addr):Prop where
 nw:PySem.W.excIn K C vB "ValueError.__new__"=true
 ga:PySem.W.findIn K (.ref C) "__getattribute__"=some (some (.builtin "BaseException.__getattribute__"))
 gn:PySem.W.findIn K (.ref C) "__getattr__"=some none
 cl:PySem.W.findIn K (.ref C) "__class__"=some (some (.builtin "object.__class__"))
 mo:PySem.W.mroIn K C (.type "object")=some true
 mb:PySem.W.mroIn K C (.type "BaseException")=some true
theorem Ade {K:PySem.W.Frag}{h:Heap}{mg:Str→Option Value}{x:Str}{C:Addr}{bmB:List Value}{newId:String}(X:K.In h)(b:mg x=some (.ref C))(q:PySem.W.excIn K C bmB newId=true):OwnCls x C bmB newId mg h:=by
 refine ⟨b,?_⟩
 unfold PySem.W.excIn at q
 split at q
 ·rename_i d0 cd sl lk
  split at q
  ·rename_i C' bm a0 a1 a2 a3 n a5 hm hs
   simp only [Bool.and_eq_true,beq_iff_eq,Bool.not_eq_true'] at q
   obtain ⟨⟨⟨⟨⟨e1,e2⟩,hdel⟩,ht⟩,hok⟩,hni⟩:=q
   subst e1 e2
   obtain ⟨nm,bs,mro,ns,qn,hd,sn,sub,ab,col,del⟩:=cd
   dsimp only at hm hdel hok hni
   subst hm hdel
   have e:sl=#[a0,a1,a2,a3,some (.builtin n),a5]:=by
    obtain ⟨l⟩:=sl
    simp only at hs
    rw [hs]
   subst e
   have N0:h.isNs ns=true:=PySem.W.isNs_of_in X hok
   exact ⟨bm,ns,nm,qn,bs,hd,sn,sub,ab,col,d0,a0,a1,a2,a3,a5,_,X _ _ lk,.of_isNs N0,PySem.W.nsMap_none_of_in X hok hni,PySem.W.tail_of_in X ht⟩
  ·cases q
 ·cases q
def Aik (E:XK)(cls:Value):TS:=fun _ _ H=>E cls none H
section
variable {P:Program}{w:World}{K:PySem.W.Frag}{mg:Str→Option Value}{base:Heap}{N:List Str}{qual:Str}{scope:Scope}{f:Addr}{cd:Value}{A:Around}{outer:List Env}{s₀:Shared}{H₀:Hp}{E:XK}
theorem Jl {x:Str}{C:Addr}{np cpos pos p:Pos}{txt:Str}{j:Nat}(hb:mg x=some (.ref C))(c:Ajb K C)(hg:Gl (Ht (M4 P w) P w K mg base N qual scope f cd A outer s₀ H₀ E) x)(hd:(x==("__debug__":Str))=false:=by decide) :
  PS (Ht (M4 P w) P w K mg base N qual scope f cd A outer s₀ H₀ E) (.Raise (some (.Call (.Name x np) [.Constant (.str txt) j p] [] cpos)) none pos) (Aik E (.ref C)):=by
 intro pins s σ H D I h
 have O:=Ade (h:=s.heap) I.kIn hb c.nw
 obtain ⟨tl,ns,nm,q,bs,hdct,sn,sub,ab,col,dd,k0,k1,k2,k3,k5,mN,hC,hN,hni,T⟩:=O.obj
 have FB:=PySem.F.excBase_ValueError
 refine wpAny_Raise_call_subT (C:=C) (nm:=nm) (q:=q) (N:=ns) (bs:=bs) (bm:=tl) (hdct:=hdct) (sn:=sn) (sub:=sub) (ab:=ab) (col:=col) (dd:=dd) (k0:=k0) (k1:=k1) (k2:=k2) (k3:=k3) (k5:=k5)
  (mN:=mN) FB (T.hasType FB.hasBase) (I.ok.hd rfl) rfl hni (Jr I hg hb ⟨rfl,?_⟩ hd)
 refine Calls.evalArgs_plain ?_
 refine spliced_more (Calls.Constant_str (Calls.spliced_nil ?_))
 exact ⟨rfl,(by show 1≤sizeLine;decide),hC,hN,T,fun h' e hx=>Ah6 (I.tok _) hx h⟩
end
section
variable {P:Program}{w:World}{K:PySem.W.Frag}{mg:Str→Option Value}{base:Heap}{N:List Str}{qual:Str}{scope:Scope}{f:Addr}{cd:Value}{A:Around}{outer:List Env}{s₀:Shared}{H₀:Hp}{E:XK}
end
section
variable {prog:Program}{w:World}{A:Around}{E:Value→Shared→Prop}{K:PySem.W.Frag}{x C:Addr}
end
section
variable {X:Cx}
end
section
variable {X:Cx}{pins:List (Addr×Obj)}{σ:L2.St}{H:Hp}{s:Shared}
end
section
variable {X:Cx}{pins:List (Addr×Obj)}{σ:L2.St}{H:Hp}{s:Shared}
end
structure Cat (K:PySem.W.Frag)(D:Addr):Prop where
 lk:∃dd cd sl,K.lookup D=some ⟨.type "type",dd,.cls cd,sl⟩
 mb:PySem.W.mroIn K D (.type "BaseException")=some true
section
variable {X:Cx}{pins:List (Addr×Obj)}{σ:L2.St}{H H':Hp}{s s':Shared}
end
end Lw
end
section
namespace Lw
open PySem PySem.Spec PyProof.Rows L2
section
variable {X:Cx}{a b c:Expr}{ta tb tc:TE}{pos:Pos}{tg:Expr}
def Yi (mg:Str→Option Value)(x:Str)(v:V):Prop:=∃u,mg x=some u∧RelV v u
theorem Og {x:Str}{v:V}(k:Yi X.mg x v)(hg:Gl X x)(hd:(x==("__debug__":Str))=false:=by decide):PE X (.Name x pos) (tC v):=by
 obtain ⟨u,h1,h2⟩:=k
 exact Ada hg h1 h2 hd
def Qy (r r':R2)(ta tb tc:TE):TE:=fun σ H Q=>ta σ H fun x H1=>tb σ H1 fun y H2=>r x y H2 fun z H3=>match z with
 |.bl k=>Br k (tc σ H3 fun w' H4=>r' y w' H4 Q) (Q (.bl false) H3)
 |_=>False
theorem Pj (r r':R2)(ta tb tc:TE):Qy r r' ta tb tc=Qk r r' ta tb tc:=by
 funext σ H Q
 unfold Qy Qk
 congr 1
 funext x H1
 congr 1
 funext y H2
 congr 1
 funext z H3
 apply propext
 cases z<;>simp [O1]
theorem Acr {op op':CmpOp}{r r':R2}(ho:Dv X (compareOp op) r)(ho':Dv X (compareOp op') r')(ha:PE X a ta)(hb:PE X b tb)(hc:PE X c tc)
  (hm:lastMarks [op,op'] [b,c]=false:=by with_unfolding_all rfl):PE X (.Compare a [op,op'] [b,c] pos) (Qy r r' ta tb tc):=by
 rw [Pj]
 exact Zr ho ho' ha hb hc hm
theorem Ac3 {op op':CmpOp}{r r':R2}(ho:Dv X (compareOp op) r)(ho':Dv X (compareOp op') r')(ha:PE X a ta)(hb:PE X b tb)(hc:PE X c tc)
  (hm:lastMarks [op,op'] [b,c]=false:=by with_unfolding_all rfl):PT X (.Compare a [op,op'] [b,c] pos) (Lk (Qy r r' ta tb tc)):=by
 rw [Mh,Pj]
 exact Abf ho ho' ha hb hc hm
def Alq (K:PySem.W.Frag):List V→Hp→VK→Prop:=fun xs H Q=>match xs with
 |[.ref p]=>∃bs:List Bool,Ay K H p (bs.map V.bl)∧Q (.bl (bs.all id)) H
 |_=>False
theorem Tw:∀{bs:List Bool} {us:List Value},A4 (bs.map V.bl) us→us=bs.map Value.bool
 |[],_,r=>by cases r;rfl
 |d::ds,_,r=>by
  cases r with
  |cons r1 r2=>rw [show _=Value.bool d from r1,Tw r2];rfl
theorem Ya:∀bs:List Bool,((List.range bs.length).all fun i=>bs.getD i true)=bs.all id:=by
 intro bs
 rw [Bool.eq_iff_iff,List.all_eq_true,List.all_eq_true]
 constructor
 ·intro h b hb
  obtain ⟨i,hi,rfl⟩:=List.getElem_of_mem hb
  have:=h i (List.mem_range.mpr hi)
  rw [List.getD_eq_getElem?_getD,List.getElem?_eq_getElem hi] at this
  exact this
 ·intro h i hi
  have hi:=List.mem_range.mp hi
  rw [List.getD_eq_getElem?_getD,List.getElem?_eq_getElem hi]
  exact h _ (List.getElem_mem hi)
theorem Ae3 (hc:X.calm=true):Ed X (.builtin "all") (Alq X.K):=by
 intro pins s σ H xs us Q I r h
 match xs,h with
 | [.ref p],⟨bs,h1,q⟩=>
  obtain ⟨u,rfl,r1⟩:=K1 r
  cases (show u=Value.ref p from r1)
  obtain ⟨its,rv,pl,_⟩:=I.list h1
  have e:=Tw rv
  subst e
  have hh:=I.ok.hd hc
  have il:=pl.isList
  obtain ⟨ob,eb,rb⟩:=id il
  have ne:p≠s.heap.objs.size:=Nat.ne_of_lt (Heap.lt_size eb)
  refine call_all_walk (wpAny_pyIter_list il ?_)
  refine ⟨s.heap.objs.size,_,_,_,_,_,fun i=>bs.getD i true,rfl,Walks.list (A:=X.A.in1) hh s.heap.objs.size p ne (bs.map Value.bool).toArray,⟨⟨_,Heap.get?_push_size _ rfl,rfl,rfl⟩,⟨ob,Heap.get?_push_of_some _ eb,rb⟩⟩,fun i v s2 Q2 E2 hP hQ=>?_,fun h' tk k=>?_⟩
  ·have hP:(bs.map Value.bool).toArray[i]? =some v:=hP
   rw [List.getElem?_toArray,List.getElem?_map] at hP
   cases e2:bs[i]? with
   |none=>
    rw [e2] at hP
    cases hP
   |some d=>
    rw [e2] at hP
    cases hP
    refine wpAny_truthy_bool ?_
    have:bs.getD i true=d:=by rw [List.getD_eq_getElem?_getD,e2];rfl
    rw [←this]
    exact hQ
  ·refine ⟨.bl (bs.all id),H,I.kept (t':=tk) fun b o e=>k b o ?_ (Heap.get?_push_of_some _ e),?_,q⟩
   ·intro z
    have z:b=s.heap.objs.size:=by simpa using z
    exact Nat.lt_irrefl _ (z▸Heap.lt_size e)
   ·show Value.bool _=Value.bool _
    rw [List.size_toArray,List.length_map,Ya]
end
end Lw
end
namespace Lw
open L2
end Lw
section
namespace Lw
open PySem PySem.Spec PyProof.Rows L2
section
variable {X:Cx}
def Aje (t u:TS):TS:=fun D σ H=>∃R:L2.St→Hp→Prop,t { D with nx:=R } σ H∧∀σ' H',R σ' H'→u D σ' H'
theorem Eu {st:Stmt}{r:List Stmt}{t u:TS}(h1:PS X st t)(h2:Mg X r u):Mg X (st::r) (Aje t u):=by
 intro pins s σ H D I h
 obtain ⟨R,h⟩:=h
 exact Ag8 R h1 h2 pins s σ H D I h
end
end Lw
end
section
set_option autoImplicit false
namespace Lw
open PySem PySem.Spec PyProof.Rows L2
section
variable {X:Cx}{pos:Pos}
def Ut (K:PySem.W.Frag):List V→Hp→VK→Prop:=fun xs H Q=>match xs with
 |[.ref p]=>∃ys,(Ay K H p ys∨E4 K H p ys)∧∀l,H l=none→Q (.ref l) (upd H l (.lst ys))
 |_=>False
theorem Pu:Ed X (.type "list") (Ut X.K):=by
 intro pins s σ H xs us Q I r h
 match xs,h with
 |[.ref p],⟨ys,h1,q⟩=>exact Jj pins s σ H _ us Q I r ⟨p,ys,rfl,h1,q⟩
end
end Lw
end
section
set_option autoImplicit false
namespace Lw
open PySem PySem.Spec PyProof.Rows L2
section
variable {X:Cx}{pos:Pos}
structure Abl (K:PySem.W.Frag)(a:Addr)(xs:List V):Prop where
 sq:∀H,E4 K H a xs
 ty:∃o,K.lookup a=some o∧o.cls=.type "tuple"∧o.dict=none
end
section
open PySem.AutoSeq1 (wpAny_loadPart')
open PySem.MeetsSeq PySem.MeetsSeq2 PySem.MeetsSeq3 PySem.SeqRoads2 PySem.SeqAt
section
variable {X:Cx}{pos:Pos}
end
end
end Lw
end
section
set_option autoImplicit false
namespace Lw
open PySem PySem.Spec PyProof.Rows L2
section
variable {X:Cx}{pos p2 p3 p4:Pos}
end
end Lw
end
section
namespace Lw
open PySem PySem.Spec PyProof.Rows L2
section
variable {prog:Program}{w:World}{A:Around}{R:Result→Shared→Prop}{s:Shared}
theorem Z0 (elt tg iter cd:Expr)(scope:Scope)(pos:Pos)(it acc:Value)(env:Env) :
  compTurn (.ListComp elt [⟨tg,iter,[cd],0⟩] scope pos) 0 it acc env=(standAt iter.pos >>= fun _=>pyNext it >>= fun r=>match r with
   |none=>pure (.done .next)
   |some v=>letOwnedTupleGo tg it v >>= fun _=>assign tg env v >>= fun _=>isTrue cd env (eval cd env) >>= fun b=>if b=true then ((eval elt env >>= fun x=>call (.builtin "list.append") [acc,x] >>= fun _=>pure ()) >>= fun _=>again (.compLoop (.ListComp elt [⟨tg,iter,[cd],0⟩] scope pos) 0 it acc env)) else again (.compLoop (.ListComp elt [⟨tg,iter,[cd],0⟩] scope pos) 0 it acc env)):=by
 unfold compTurn
 simp only [List.getElem?_cons_zero,bne_self_eq_false,Bool.false_eq_true,if_false,List.forIn_cons,List.forIn_nil,if_true]
 congr 1
 funext _
 congr 1
 funext r
 cases r with
 |none=>rfl
 |some v=>
  simp only [bind_assoc,pure_bind]
  rfl
theorem Ul {elt tg iter cd:Expr}{scope:Scope}{pos:Pos}{it acc:Value}{env:Env}(I:Nat→Shared→Prop)
  (turn:∀n s,I n s→wpAny (model prog w) A (pyNext it) (fun r s1=>(r=none∧R (.ok .next) s1)∨∃v,r=some v∧wpAny (model prog w) A (letOwnedTupleGo tg it v) (fun _ s2=>wpAny (model prog w) A (assign tg env v) (fun _ s3=>
   wpAny (model prog w) A (isTrue cd env (eval cd env)) (fun b s3=>Br b (wpAny (model prog w) A (eval elt env) (fun x s4=>wpAny (model prog w) A (call (.builtin "list.append") [acc,x]) (fun _ s5=>∃m,m<n∧I m s5) (fun _ _=>False) s4) (fun _ _=>False) s3) (∃m,m<n∧I m s3)) (fun _ _=>False) s3) (fun _ _=>False) s2) (fun _ _=>False) s1) (fun _ _=>False) s)
  (n:Nat) (h:I n s):codeAny (model prog w) A (.compLoop (.ListComp elt [⟨tg,iter,[cd],0⟩] scope pos) 0 it acc env) R s:=by
 refine codeAny_loop rfl I (fun n s hI=>?_) n h
 show wpAny _ _ ((compTurn (.ListComp elt [⟨tg,iter,[cd],0⟩] scope pos) 0 it acc env).onRaise (fun x=>do noteFrame x env;theTreesLotGoes x)) _ _ s
 refine wpAny_noted ?_
 rw [Z0]
 refine wpAny_bind (wpAny_standAt (wpAny_bind (wpAny_mono (turn n s hI) (fun r s1 h1=>?_) fun _ _ z=>z.elim)))
 rcases h1 with ⟨rfl,h1⟩|⟨v,rfl,h1⟩
 ·exact wpAny_pure h1
 ·refine wpAny_bind (wpAny_mono h1 (fun _ s2 h2=>?_) fun _ _ z=>z.elim)
  refine wpAny_bind (wpAny_mono h2 (fun _ s3 h3=>?_) fun _ _ z=>z.elim)
  refine wpAny_bind (wpAny_mono h3 (fun b s3 h3=>?_) fun _ _ z=>z.elim)
  cases b with
  |true=>
   refine wpAny_bind (wpAny_bind (wpAny_mono (h3.1 rfl) (fun x s4 h4=>?_) fun _ _ z=>z.elim))
   refine wpAny_bind (wpAny_mono h4 (fun _ s5 h5=>?_) fun _ _ z=>z.elim)
   exact wpAny_pure (wpAny_pure ⟨rfl,h5⟩)
  |false=>exact wpAny_pure ⟨rfl,h3.2 rfl⟩
end
@[irreducible] def Kh (J:It) (g:TG) (tc:TT) (te:TE) (k:Nat) (js:List Nat) (σ:L2.St) (H1:Hp) (Q:VK):Prop:=∀D,H1 D=none→∃W:Nat→Nat→Hp→Prop,(∃m,W 0 m (upd H1 D (.lst [])))∧∀i m H,W i m H →
 (J.stop i H∧Q (.ref D) H)∨(J.go i H∧∀x H',J.yld i H x H'→g x (List.replicate k none++capσ js σ) H' fun σ2 H2=>σ2.drop k=capσ js σ∧tc σ2 H2 fun b H3=>Br b (te σ2 H3 fun v H4=>∃xs,H4 D=some (.lst xs)∧xs.length<sizeLine∧∃m',m'<m∧W (i+1) m' (upd H4 D (.lst (xs++[v])))) (∃m',m'<m∧W (i+1) m' H3))
def Ml (wi:TI)(g:TG)(tc:TT)(te:TE)(k:Nat)(js:List Nat):TE:=fun σ H Q=>wi σ H fun J H1=>Kh J g tc te k js σ H1 Q
section
variable {X:Cx}
theorem Lx {elt iter tg cd:Expr}{scope:Scope}{pos:Pos}{wi:TI}{te:TE}{tc:TT}{g:TG}{N:List Str}{cl:List (Str×Addr)}(k:Nat)(js:List Nat)(hi:PI X tg iter wi)
  (hg:∀C s H fp,PG (Gi X N s H (compEnvC scope cl C X.env) fp) tg g) (hd:∀C s H fp,PT (Gi X N s H (compEnvC scope cl C X.env) fp) cd tc) (he:∀C s H fp,PE (Gi X N s H (compEnvC scope cl C X.env) fp) elt te) (hcalm:X.calm=true)
  (hclos:closureFor scope X.env=pure cl) (hkind:scope.kind=.function) (hcell:∀y∈scope.names,y.2≠.cell) (hnames:∀y∈scope.names,y.2=.local→scope.names.lookup y.1=some .local)
  (hcl:∀y c,cl.lookup y=some c→X.env.cells.lookup y=some c) (hhas:∀y,((relabel scope X.env).names.lookup y=some .cell∨(relabel scope X.env).names.lookup y=some .free)→∃c,cl.lookup y=some c)
  (hlen:N.length=k+js.length) (hcap:∀i j,js[i]? =some j→∃y,N[k+i]? =some y∧Cap X (relabel scope X.env) cl j y)
  (hs:∀x,foldedSetIterable iter X.env x=pure x) {pins:List (Addr×Obj)} {s:Shared} {σ:L2.St} {H:Hp} {Q:VK} (I:Ar X pins σ H s) (h:Ml wi g tc te k js σ H Q) {cpos:Pos} {use:Option (Value→Sem Unit)} {Qv:Value→Shared→Prop}
  (fin:∀(s6:Shared) (H5:Hp) (D C:Addr) (m:Str→Option Value),Ar X pins σ H5 s6→s6.heap.Ns C m→H5 C=none→X.s₀.heap.objs.size≤C→C≠X.env.locals→(∀x c,X.env.cells.lookup x=some c→c≠C)→(∀p∈X.pn++pins,p.1≠C)→Q (.ref D) H5 →
   compPost (model X.prog X.w) X.A X.xe use Qv (.ref D) C (.ok .next) s6) :
  wpAny (model X.prog X.w) X.A (comprehension (.ListComp elt [⟨tg,iter,[cd],0⟩] scope pos) scope X.env cpos (newList []) false (eval iter X.env) use) Qv X.xe s:=by
 refine wpAny_comprehension_free (use:=use) rfl hs hclos hkind hnames (thn (hi pins s σ H _ I h) fun v s1 h1=>thn h1 fun itv s2 h2=>?_)
 obtain ⟨it,fp,tn,J,H2,rfl,I2,T,st2,f2,h2⟩:=h2
 refine wpAny_newObj_type ?_
 have hD:H2 s2.heap.objs.size=none:=I2.hok.fresh (Nat.le_refl _)
 unfold Kh at h2
 obtain ⟨W,⟨m0,w0⟩,turn⟩:=h2 _ hD
 have I3:Ar X pins σ (upd H2 s2.heap.objs.size (.lst [])) { s2 with heap:=s2.heap.push { cls:=.type "list",dict:=none,data:=.seq ([]:List Value).toArray } } :=
  I2.laid (t':=s2.toks) (fun b u e=>Heap.get?_push_of_some _ e) (Nat.le_refl _) ⟨Nat.zero_le _,[],0,.nil,Heap.get?_push_size _ rfl⟩
 have hlt:∀b∈fp,b<s2.heap.objs.size:=fun b hb=>by
  obtain ⟨o,e,_⟩:=T.obj _ _ st2 b hb
  exact Heap.lt_size e
 have f3:∀b∈fp,Jw X pins (upd H2 s2.heap.objs.size (.lst [])) b:=fun b hb=>⟨by rw [Ak (Nat.ne_of_lt (hlt b hb))];exact (f2 b hb).1,(f2 b hb).2⟩
 have st3:tn 0 (s2.heap.push { cls:=.type "list",dict:=none,data:=.seq ([]:List Value).toArray }):=T.keep _ _ _ st2 fun b hb o e=>Heap.get?_push_of_some _ e
 have hlt3:∀b∈fp,b<(s2.heap.push { cls:=.type "list",dict:=none,data:=.seq ([]:List Value).toArray }).objs.size:=fun b hb=>Nat.lt_of_lt_of_le (hlt b hb) (by rw [Heap.size_push];exact Nat.le_succ _)
 generalize hs3:({ s2 with heap:=s2.heap.push { cls:=.type "list",dict:=none,data:=.seq ([]:List Value).toArray } }:Shared)=s3 at I3
 have eh:s3.heap=s2.heap.push { cls:=.type "list",dict:=none,data:=.seq ([]:List Value).toArray }:=by rw [←hs3]
 rw [←eh] at st3 hlt3
 generalize hDD:s2.heap.objs.size=D at *
 generalize hH3:upd H2 D (.lst [])=H3 at *
 clear hs3 eh
 refine wpAny_newFunctionEnv (s:=s3) hcell (by intro y hy;simp at hy) (fun h4 n4 sb4=>?_) hkind
 have Ok:=Wk (N:=N) (C:=s3.heap.objs.size) I3 hkind (Nat.le_refl _) hcl hhas fun b hb=>⟨f3 b hb,hlt3 b hb⟩
 show codeAny _ _ (.compStart (.ListComp elt [⟨tg,iter,[cd],0⟩] scope pos) 0 (.ref it) (.ref D) (compEnvC scope cl s3.heap.objs.size X.env)) _ _
 generalize hC:s3.heap.objs.size=C at *
 have old:∀b o,s3.heap.get? b=some o→h4.get? b=some o:=fun b o e=>sb4.extBut b o (by rw [←hC];exact Nat.ne_of_lt (Heap.lt_size e)) (Heap.get?_push_of_some _ e)
 have fresh:H3 C=none:=I3.hok.fresh (by rw [hC];exact Nat.le_refl _)
 have hcapl:∀{i:Nat} {x:Str} {v:V},N[i]? =some x→(List.replicate k none++capσ js σ)[i]? =some (some v)→∃u,L2.RelV v u∧Agt (compEnvC scope cl C X.env) h4 (fun _=>none) x u:=by
  intro i x v e1 e2
  by_cases hik:i<k
  ·rw [List.getElem?_append_left (by simpa using hik)] at e2
   rw [List.getElem?_replicate] at e2
   simp [hik] at e2
  ·rw [List.getElem?_append_right (by simpa using Nat.le_of_not_lt hik),List.length_replicate] at e2
   unfold capσ at e2
   rw [List.getElem?_map] at e2
   cases ej:js[i-k]? with
   |none=>
    rw [ej] at e2
    cases e2
   | some j=>
    rw [ej] at e2
    have e2:(σ[j]?).join=some v:=Option.some.inj e2
    obtain ⟨y,hy,cp⟩:=hcap _ _ ej
    rw [show k+(i-k)=i by omega,e1] at hy
    cases hy
    obtain ⟨m,_,hl⟩:=I3.loc
    have e3:σ[j]? =some (some v):=by
     cases q:σ[j]? with
     |none=>
      rw [q] at e2
      cases e2
     |some o=>
      rw [q] at e2
      have:o=some v:=e2
      rw [this]
    obtain ⟨u,ru,lk⟩:=hl j x v cp.nm e3 (.inr (.inl cp.ko))
    refine ⟨u,ru,?_⟩
    rcases lk with ⟨z,_⟩|⟨_,c,hc,z⟩
    ·rw [cp.ko] at z
     cases z
    ·refine .inr ⟨.inl cp.ki,c,by rw [←hc];exact cp.cl,?_⟩
     obtain ⟨o,e,d⟩:=z
     exact ⟨o,old _ _ e,d⟩
 have I4:Ar (Gi X N s3 H3 (compEnvC scope cl C X.env) fp) [] (List.replicate k none++capσ js σ) H3 { s3 with heap:=h4,toks:=s3.toks+([]:List (Str×Value)).length }:=by
  refine ⟨Ok,rfl,I3.bare,Un.kept old,⟨_,n4,fun i x v e1 e2 e3=>?_⟩,fun x c e=>?_,fresh,fun x c e=>I3.freeC x c (hcl x c e),fun p hp=>absurd hp (by simp),I3.hok.kept old,?_⟩
  ·obtain ⟨u,ru,lk⟩:=hcapl e1 e2
   refine ⟨u,ru,?_⟩
   rcases lk with ⟨z,q⟩|q
   ·cases q
   ·exact .inr q
  ·obtain ⟨v,o,e1,d⟩:=I3.cell x c (hcl x c e)
   exact ⟨v,o,old _ _ e1,d⟩
  ·simp [capσ,hlen]
 have fp4:∀{H':Hp},(∀b∈fp,H' b=none)→∀b∈fp,Jw (Gi X N s3 H3 (compEnvC scope cl C X.env) fp) [] H' b:=fun hn b hb=>
  ⟨hn b hb,(Ok.exf b hb).1,Ok.exfs b hb,.inl hb,fun x c e=>(Ok.exf b hb).2 x c e,fun p hp=>absurd hp (by simp)⟩
 have st4:tn 0 h4:=T.keep _ _ _ st3 fun b hb o e=>old b o e
 have run:∀s4:Shared,s4={ s3 with heap:=h4,toks:=s3.toks+([]:List (Str×Value)).length } →
   codeAny (model X.prog X.w) X.A (.compLoop (.ListComp elt [⟨tg,iter,[cd],0⟩] scope pos) 0 (.ref it) (.ref D) (compEnvC scope cl C X.env)) (compPost (model X.prog X.w) X.A X.xe use Qv (.ref D) C) s4:=by
  rintro s4 rfl
  refine Ul (fun n s'=>∃i H' σ',Ar (Gi X N s3 H3 (compEnvC scope cl C X.env) fp) [] σ' H' s'∧(∀j:Nat,∀v,(List.replicate k none++capσ js σ)[j]? =some (some v)→σ'[j]? =some (some v))∧tn i s'.heap∧(∀b∈fp,H' b=none)∧W i n H') ?_ m0
   ⟨0,H3,_,I4,fun _ _ z=>z,st4,fun b hb=>(f3 b hb).1,w0⟩
  rintro n s5 ⟨i,H5,σ5,I5,cap5,st5,fr5,w5⟩
  have I5':=I5.weak (σ':=List.replicate k none++capσ js σ) (by rw [I5.len];simp [capσ,hlen]) cap5
  rcases turn i n H5 w5 with ⟨stop,q⟩|⟨go,step⟩
  ·refine thn (T.done (Gi X N s3 H3 (compEnvC scope cl C X.env) fp) rfl rfl rfl hcalm i [] s5 σ5 H5 _ I5 (fp4 fr5) st5 stop) fun r s6 ⟨hr,I6⟩=>.inl ⟨hr,?_⟩
   obtain ⟨m6,n6,_⟩:=I6.loc
   have hCf:H5 C=none:=I6.free
   have u6:=I6.base
   have uC:Un (Kr X.stack) fp H3 H5 s3.heap s6.heap:=⟨u6.keep,u6.slot,u6.free,u6.there,u6.tups,u6.frzs,u6.tbls⟩
   have I7:Ar X pins σ H5 s6:=I3.call' (s':=s6) I6.os uC I6.hok I6.bare fun b hb=>⟨(f3 b hb).2.2.2.1,(f3 b hb).2.1,(f3 b hb).2.2.2.2.1,(f3 b hb).2.2.2.2.2⟩
   have lt3:∀b o,s3.heap.get? b=some o→b≠C:=fun b o e=>by rw [←hC];exact Nat.ne_of_lt (Heap.lt_size e)
   refine fin s6 H5 D C m6 I7 n6 hCf (by rw [←hC];exact I3.sz) (by rw [←hC];exact Nat.ne_of_gt I3.lt) (fun x c e=>?_) (fun p hp=>lt3 p.1 p.2 (I3.pin p hp).1) q
   obtain ⟨v,o,e1,_⟩:=I3.cell x c e
   exact lt3 c o e1
  ·refine thn (T.item (Gi X N s3 H3 (compEnvC scope cl C X.env) fp) rfl rfl rfl hcalm i [] s5 _ H5 _ I5' (fp4 fr5) st5 go) fun r s6 ⟨u,hr,h6⟩=>.inr ⟨u,hr,?_⟩
   refine thn h6 fun _ s7 ⟨x,H7,I7,r7,y7,st7,fr7⟩=>?_
   have I7':=I7.pinned (fp4 fr7) (T.obj _ _ st7)
   refine thn (hg C s3 H3 fp _ s7 _ H7 x u _ I7' r7 (step x H7 y7)) fun _ s8 ⟨σ8,H8,I8,d8,q8⟩=>?_
   have capk:∀(j:Nat) v,(List.replicate k none++capσ js σ)[j]? =some (some v)→σ8[j]? =some (some v):=fun j v e=>by
    by_cases hjk:j<k
    ·rw [List.getElem?_append_left (by simpa using hjk),List.getElem?_replicate] at e
     simp [hjk] at e
    ·rw [List.getElem?_append_right (by simpa using Nat.le_of_not_lt hjk),List.length_replicate,←d8,List.getElem?_drop] at e
     rw [show k+(j-k)=j by omega] at e
     exact e
   refine thn (hd C s3 H3 fp _ s8 σ8 H8 _ I8 q8) fun b s8' ⟨H8',I8',q8'⟩=>⟨fun hb=>?_,fun hb=>?_⟩
   ·refine thn (he C s3 H3 fp _ s8' σ8 H8' _ I8' (q8'.1 hb)) fun vv s9 ⟨vx,H9,I9,r9,xs,hx9,hz9,m',hm',w9⟩=>?_
    obtain ⟨z9,its,n9,rl,e9⟩:=(show Bb X.prog X.w H9 s9.heap D (.lst xs) from I9.hok D _ hx9)
    have app:=Dm (X:=Gi X N s3 H3 (compEnvC scope cl C X.env) fp) _ s9 σ8 H9 (.ref D) [vx] (.ref D) [vv] (fun _ H'=>H'=upd H9 D (.lst (xs++[vx]))) I9 rfl (.cons r9 .nil) ⟨D,xs,vx,rfl,rfl,hx9,hz9,rfl⟩
    refine thn app fun _ s10 ⟨_,H10,I10,_,e10⟩=>?_
    subst e10
    refine ⟨m',hm',i+1,_,σ8,I10.unpinned (pins:=[]),capk,T.keep _ _ _ st7 fun b hb o e=>(I10.pin (b,o) (List.mem_append_right _ (List.mem_append_right _ (Ch hb e)))).1,fun b hb=>?_,w9⟩
    obtain ⟨o,e,d⟩:=T.obj _ _ st7 b hb
    exact (I10.pin (b,o) (List.mem_append_right _ (List.mem_append_right _ (Ch hb e)))).2.1
   ·obtain ⟨m',hm',w9⟩:=q8'.2 hb
    refine ⟨m',hm',i+1,_,σ8,I8'.unpinned (pins:=[]),capk,T.keep _ _ _ st7 fun b hb o e=>(I8'.pin (b,o) (List.mem_append_right _ (List.mem_append_right _ (Ch hb e)))).1,fun b hb=>?_,w9⟩
    obtain ⟨o,e,d⟩:=T.obj _ _ st7 b hb
    exact (I8'.pin (b,o) (List.mem_append_right _ (List.mem_append_right _ (Ch hb e)))).2.1
 exact codeAny_compStart_list (run _ rfl) (T.self X.A 0 _ _ _ st4 (run _ rfl))
theorem Adg {elt iter tg cd:Expr}{scope:Scope}{pos:Pos}{wi:TI}{te:TE}{tc:TT}{g:TG}{N:List Str}{cl:List (Str×Addr)}(k:Nat)(js:List Nat)(hi:PI X tg iter wi)
  (hg:∀C s H fp,PG (Gi X N s H (compEnvC scope cl C X.env) fp) tg g) (hd:∀C s H fp,PT (Gi X N s H (compEnvC scope cl C X.env) fp) cd tc) (he:∀C s H fp,PE (Gi X N s H (compEnvC scope cl C X.env) fp) elt te) (hcalm:X.calm=true)
  (hclos:closureFor scope X.env=pure cl) (hkind:scope.kind=.function) (hcell:∀y∈scope.names,y.2≠.cell) (hnames:∀y∈scope.names,y.2=.local→scope.names.lookup y.1=some .local)
  (hcl:∀y c,cl.lookup y=some c→X.env.cells.lookup y=some c) (hhas:∀y,((relabel scope X.env).names.lookup y=some .cell∨(relabel scope X.env).names.lookup y=some .free)→∃c,cl.lookup y=some c)
  (hlen:N.length=k+js.length) (hcap:∀i j,js[i]? =some j→∃y,N[k+i]? =some y∧Cap X (relabel scope X.env) cl j y)
  (hs:∀x,foldedSetIterable iter X.env x=pure x:=by intro _;rfl):PE X (.ListComp elt [⟨tg,iter,[cd],0⟩] scope pos) (Ml wi g tc te k js):=by
 intro pins s σ H Q I h
 rw [eval_ListComp]
 refine Lx k js hi hg hd he hcalm hclos hkind hcell hnames hcl hhas hlen hcap hs I h fun s6 H5 D C m I6 n6 z1 z2 z3 z4 z5 q=>⟨m,n6,fun h7 sb7=>⟨.ref D,H5,?_,rfl,q⟩⟩
 exact I6.turned (t':=s6.toks) (fun b o hb e=>(sb7.2 b hb).trans e) z1 z3.symm.symm (.inr z2) z4 z5
theorem X4 {elt iter tg cd:Expr}{scope:Scope}{pos py spos:Pos}{i:Nat}{y:Str}{wi:TI}{te:TE}{tc:TT}{g:TG}{N:List Str}{cl:List (Str×Addr)}(k:Nat)(js:List Nat)(hi:PI X tg iter wi)
  (hg:∀C s H fp,PG (Gi X N s H (compEnvC scope cl C X.env) fp) tg g) (hd:∀C s H fp,PT (Gi X N s H (compEnvC scope cl C X.env) fp) cd tc) (he:∀C s H fp,PE (Gi X N s H (compEnvC scope cl C X.env) fp) elt te) (hcalm:X.calm=true)
  (hclos:closureFor scope X.env=pure cl) (hkind:scope.kind=.function) (hcell:∀y∈scope.names,y.2≠.cell) (hnames:∀y∈scope.names,y.2=.local→scope.names.lookup y.1=some .local)
  (hcl:∀y c,cl.lookup y=some c→X.env.cells.lookup y=some c) (hhas:∀y,((relabel scope X.env).names.lookup y=some .cell∨(relabel scope X.env).names.lookup y=some .free)→∃c,cl.lookup y=some c)
  (hlen:N.length=k+js.length) (hcap:∀i j,js[i]? =some j→∃y,N[k+i]? =some y∧Cap X (relabel scope X.env) cl j y)
  (hs:∀x,foldedSetIterable iter X.env x=pure x) (hN:X.N.Nodup) (hi':X.N[i]? =some y) (hy:X.env.scope.names.lookup y=some .local) (hsw:swapsWith (.ListComp elt [⟨tg,iter,[cd],0⟩] scope pos) (some (.Name y py)) spos.line X.env=pure true) :
  PS X (.Assign [.Name y py] (.ListComp elt [⟨tg,iter,[cd],0⟩] scope pos) spos) (Xy (Ml wi g tc te k js) (O3 i)):=by
 intro pins s σ H D I h
 rw [exec_Assign_Name_used _ _ _ _ hsw]
 refine wpAny_bind (wpAny_standAt (wpAny_bind ?_))
 show wpAny _ X.A (do let _ ←comprehension (.ListComp elt [⟨tg,iter,[cd],0⟩] scope pos) scope X.env _ (newList []) false (eval iter X.env) (some (assign (.Name y py) X.env))) _ _ s
 refine wpAny_bind (wpAny_mono (Lx k js hi hg hd he hcalm hclos hkind hcell hnames hcl hhas hlen hcap hs (use:=some (assign (.Name y py) X.env)) (Qv:=fun _ s'=>SP X pins D .next s') I h fun s6 H5 D' C m I6 n6 z1 z2 z3 z4 z5 q=>?_)
  (fun _ s' hq=>wpAny_pure (wpAny_pure hq)) fun _ _ e=>e)
 show wpAny _ X.A (assign (.Name y py) X.env (.ref D')) _ _ _
 refine wpAny_assign_Name (Kj I6 hN hi' (.inl hy) (v:=.ref D') rfl (fun s8 I8 ⟨a,sb,ha⟩=>?_) (.inr hy))
 have na:C≠a:=by
  rcases ha with rfl|ha
  ·exact z3
  ·exact Ne.symm (z4 _ _ ha)
 exact ⟨m,n6.sameBut sb na,fun h9 sb9=>⟨_,H5,I8.turned (t':=s8.toks) (fun b o hb e=>(sb9.2 b hb).trans e) z1 z3 (.inr z2) z4 z5,q⟩⟩
theorem S9 {elt iter tg cd:Expr}{scope:Scope}{pos:Pos}{wi:TI}{te:TE}{tc:TT}{g:TG}{cl:List (Str×Addr)}(own ys:List Str)(js:List Nat)(hclos:closureFor scope X.env=pure cl)(hi:PI X tg iter wi)
  (hg:∀C s H fp,PG (Gi X (own++ys) s H (compEnvC scope cl C X.env) fp) tg g) (hd:∀C s H fp,PT (Gi X (own++ys) s H (compEnvC scope cl C X.env) fp) cd tc) (he:∀C s H fp,PE (Gi X (own++ys) s H (compEnvC scope cl C X.env) fp) elt te) (hcalm:X.calm=true) (hkind:scope.kind=.function)
  (hcell:(scope.names.all fun y=>y.2 != .cell)=true) (hnames:(scope.names.all fun y=>y.2 != .local||scope.names.lookup y.1==some .local)=true) (hfr:(scope.names.all fun y=>y.2 != .free||(cl.map (·.1)).contains y.1)=true)
  (hcl:Ku X.env.cells cl) (hcap:L3 X (relabel scope X.env) cl ys js) (hs:∀x,foldedSetIterable iter X.env x=pure x:=by intro _;rfl) :
  PE X (.ListComp elt [⟨tg,iter,[cd],0⟩] scope pos) (Ml wi g tc te own.length js):=by
 rw [List.all_eq_true] at hcell hnames hfr
 have hc:∀y∈scope.names,y.2≠.cell:=fun y hy z=>by
  have:=hcell y hy
  rw [z] at this
  cases this
 refine Adg own.length js hi hg hd he hcalm hclos hkind hc (fun y hy z=>?_) hcl.at (fun y h=>?_) (by rw [List.length_append,hcap.len]) (fun i j e=>?_) hs
 ·have:=hnames y hy
  rw [z] at this
  simpa using this
 ·obtain ⟨z,hz,rfl,hk⟩:∃z∈scope.names,z.1=y∧(z.2=.free∨z.2=.cell):=by
   rcases h with h|h
   ·exact Bo h (.inl rfl)
   ·exact Bo h (.inr rfl)
  rcases hk with hk|hk
  ·have:=hfr z hz
   rw [hk] at this
   exact Et (by simpa using this)
  ·exact absurd hk (hc z hz)
 ·obtain ⟨y,h1,h2⟩:=hcap.at i j e
  exact ⟨y,by rw [List.getElem?_append_right (Nat.le_add_right _ _),Nat.add_sub_cancel_left];exact h1,h2⟩
theorem Xi {elt iter tg cd:Expr}{scope:Scope}{pos py spos:Pos}{i:Nat}{y:Str}{wi:TI}{te:TE}{tc:TT}{g:TG}{cl:List (Str×Addr)}(own ys:List Str)(js:List Nat)(hclos:closureFor scope X.env=pure cl)(hi:PI X tg iter wi)
  (hg:∀C s H fp,PG (Gi X (own++ys) s H (compEnvC scope cl C X.env) fp) tg g) (hd:∀C s H fp,PT (Gi X (own++ys) s H (compEnvC scope cl C X.env) fp) cd tc) (he:∀C s H fp,PE (Gi X (own++ys) s H (compEnvC scope cl C X.env) fp) elt te) (hcalm:X.calm=true) (hkind:scope.kind=.function)
  (hcell:(scope.names.all fun y=>y.2 != .cell)=true) (hnames:(scope.names.all fun y=>y.2 != .local||scope.names.lookup y.1==some .local)=true) (hfr:(scope.names.all fun y=>y.2 != .free||(cl.map (·.1)).contains y.1)=true)
  (hcl:Ku X.env.cells cl) (hcap:L3 X (relabel scope X.env) cl ys js) (hN:X.N.Nodup) (hi':X.N[i]? =some y) (hy:X.env.scope.names.lookup y=some .local) (hs:∀x,foldedSetIterable iter X.env x=pure x:=by intro _;rfl) (hsw:swapsWith (.ListComp elt [⟨tg,iter,[cd],0⟩] scope pos) (some (.Name y py)) spos.line X.env=pure true:=by rfl) :
  PS X (.Assign [.Name y py] (.ListComp elt [⟨tg,iter,[cd],0⟩] scope pos) spos) (Xy (Ml wi g tc te own.length js) (O3 i)):=by
 rw [List.all_eq_true] at hcell hnames hfr
 have hc:∀y∈scope.names,y.2≠.cell:=fun y hy z=>by
  have:=hcell y hy
  rw [z] at this
  cases this
 refine X4 own.length js hi hg hd he hcalm hclos hkind hc (fun y hy z=>?_) hcl.at (fun y h=>?_) (by rw [List.length_append,hcap.len]) (fun i j e=>?_) hs hN hi' hy hsw
 ·have:=hnames y hy
  rw [z] at this
  simpa using this
 ·obtain ⟨z,hz,rfl,hk⟩:∃z∈scope.names,z.1=y∧(z.2=.free∨z.2=.cell):=by
   rcases h with h|h
   ·exact Bo h (.inl rfl)
   ·exact Bo h (.inr rfl)
  rcases hk with hk|hk
  ·have:=hfr z hz
   rw [hk] at this
   exact Et (by simpa using this)
  ·exact absurd hk (hc z hz)
 ·obtain ⟨y,h1,h2⟩:=hcap.at i j e
  exact ⟨y,by rw [List.getElem?_append_right (Nat.le_add_right _ _),Nat.add_sub_cancel_left];exact h1,h2⟩
end
end Lw
end
section
namespace Lw
open PySem PySem.Spec PyProof.Rows L2
section
variable {M:Model}{A:Around}{E:Value→Shared→Prop}{s:Shared}
end
section
variable {X:Cx}
end
end Lw
end
section
namespace Lw
open PySem PySem.Spec PyProof.Rows L2
def dd (l:List Str)(x:Str):List Str:=if x∈l then l else l++[x]
def lS (a b:Str):Prop:=a.cps.toList<b.cps.toList
instance:DecidableRel lS:=fun a b=>inferInstanceAs (Decidable (a.cps.toList<b.cps.toList))
theorem Ie (a:Str):¬lS a a:=List.lt_irrefl _
theorem W3 {a b c:Str}(h:lS a b)(h':lS b c):lS a c:=List.lt_trans h h'
theorem Q3 {a b:Str}(h:¬lS a b)(h':¬lS b a):a=b:=by
 have e:=List.le_antisymm (List.not_lt.mp h') (List.not_lt.mp h)
 cases a;cases b
 simpa using Array.toList_inj.mp e
theorem Aj9 {a b:Str}(h:lS a b):¬lS b a:=List.lt_asymm h
abbrev Inc (l:List Str):Prop:=l.Pairwise lS
theorem Hb:∀{l m:List Str},Inc l→Inc m→(∀x,x∈l↔x∈m)→l=m
 |[],[],_,_,_=>rfl
 |[],b::m,_,_,h=>absurd ((h b).mpr (List.mem_cons_self ..)) (by simp)
 |a::l,[],_,_,h=>absurd ((h a).mp (List.mem_cons_self ..)) (by simp)
 | a::l,b::m,h1,h2,h=>by
  have ⟨a1,a2⟩:=List.pairwise_cons.mp h1
  have ⟨b1,b2⟩:=List.pairwise_cons.mp h2
  have e:a=b:=by
   rcases List.mem_cons.mp ((h a).mp (List.mem_cons_self ..)) with e|e
   ·exact e
   ·rcases List.mem_cons.mp ((h b).mpr (List.mem_cons_self ..)) with f|f
    ·exact f.symm
    ·exact absurd (b1 a e) (Aj9 (a1 b f))
  subst e
  rw [Hb a2 b2 fun x=>⟨fun hx=>?_,fun hx=>?_⟩]
  ·rcases List.mem_cons.mp ((h x).mp (List.mem_cons_of_mem _ hx)) with e|e
   ·subst e
    exact absurd (a1 x hx) (Ie x)
   ·exact e
  ·rcases List.mem_cons.mp ((h x).mpr (List.mem_cons_of_mem _ hx)) with e|e
   ·subst e
    exact absurd (b1 x hx) (Ie x)
   ·exact e
def R7 (x:Str):List Str→List Str
 |[]=>[x]
 |y::l=>if lS x y then x::y::l else if lS y x then y::R7 x l else y::l
theorem Mu {x z:Str}:∀{l:List Str},z∈R7 x l↔z=x∨z∈l
 |[]=>by simp [R7]
 | y::l=>by
  unfold R7
  split
  ·simp
  ·split
   ·simp only [List.mem_cons,Mu (l:=l)]
    constructor
    ·rintro (h|h|h)
     ·exact .inr (.inl h)
     ·exact .inl h
     ·exact .inr (.inr h)
    ·rintro (h|h|h)
     ·exact .inr (.inl h)
     ·exact .inl h
     ·exact .inr (.inr h)
   ·rename_i h1 h2
    have e:=Q3 h1 h2
    subst e
    simp
theorem Rz {x:Str}:∀{l:List Str},Inc l→Inc (R7 x l)
 |[],_=>List.pairwise_singleton ..
 | y::l,h=>by
  have ⟨h1,h2⟩:=List.pairwise_cons.mp h
  unfold R7
  split
  ·rename_i c
   exact List.pairwise_cons.mpr ⟨fun z hz=>(List.mem_cons.mp hz).elim (fun e=>e▸c) (fun e=>W3 c (h1 z e)),h⟩
  ·split
   ·rename_i c
    exact List.pairwise_cons.mpr ⟨fun z hz=>(Mu.mp hz).elim (fun e=>e▸c) (h1 z),Rz h2⟩
   ·exact h
def Oh (l:List Str):List Str:=l.foldr R7 []
theorem Cn:∀(l:List Str),Inc (Oh l)
 |[]=>List.Pairwise.nil
 |x::l=>Rz (Cn l)
theorem Ev {x:Str}:∀{l:List Str},x∈Oh l↔x∈l
 |[]=>Iff.rfl
 |y::l=>by
  show x∈R7 y (Oh l)↔_
  rw [Mu,Ev (l:=l),List.mem_cons]
theorem U6 {l:List Str}{x z:Str}:z∈dd l x↔z∈l∨z=x:=by
 unfold dd
 split
 ·rename_i h
  constructor
  ·exact .inl
  ·rintro (h'|rfl)
   ·exact h'
   ·exact h
 ·simp
theorem M9 {l:List Str}{x:Str}(h:l.Nodup):(dd l x).Nodup:=by
 unfold dd
 split
 ·exact h
 ·rename_i c
  rw [List.nodup_append]
  exact ⟨h,List.nodup_cons.mpr ⟨by simp,List.nodup_nil⟩,fun a ha b hb e=>by
   rw [List.mem_singleton] at hb
   subst hb e
   exact c ha⟩
def Yt (val:Nat→Str)(i:Nat):List Str:=((List.range i).map val).foldl dd []
theorem Jh (val:Nat→Str)(i:Nat):Yt val (i+1)=dd (Yt val i) (val i):=by
 unfold Yt
 rw [List.range_succ,List.map_append,List.foldl_append]
 rfl
theorem Jx (val:Nat→Str):∀i,(Yt val i).Nodup
 |0=>List.nodup_nil
 |i+1=>by
  rw [Jh]
  exact M9 (Jx val i)
theorem Wj {val:Nat→Str}{x:Str}:∀{i:Nat},x∈Yt val i↔∃j,j<i∧val j=x
 |0=>⟨fun h=>(by cases h),fun ⟨j,h,_⟩=>absurd h (Nat.not_lt_zero _)⟩
 | i+1=>by
  rw [Jh,U6,Wj (i:=i)]
  constructor
  ·rintro (⟨j,h,e⟩|e)
   ·exact ⟨j,Nat.lt_succ_of_lt h,e⟩
   ·exact ⟨i,Nat.lt_succ_self _,e.symm⟩
  ·rintro ⟨j,h,e⟩
   rcases Nat.lt_succ_iff_lt_or_eq.mp h with h|rfl
   ·exact .inl ⟨j,h,e⟩
   ·exact .inr e.symm
theorem Jq {l:List Str}(h:l.Pairwise fun a b=>¬lS b a)(n:l.Nodup):Inc l:=by
 induction l with
 |nil=>exact List.Pairwise.nil
 |cons a l ih=>
  have ⟨h1,h2⟩:=List.pairwise_cons.mp h
  have ⟨n1,n2⟩:=List.nodup_cons.mp n
  refine List.pairwise_cons.mpr ⟨fun b hb=>?_,ih h2 n2⟩
  refine Decidable.byContradiction fun c=>n1 ?_
  have e:=Q3 c (h1 b hb)
  exact e▸hb
theorem Ic {α:Type}:∀(l:List α) (i:Nat) (x:α),l[i]? =some x→(x::l.eraseIdx i).Perm l
 |[],i,x,h=>by simp at h
 |a::l,0,x,h=>by
  simp at h
  subst h
  exact List.Perm.refl _
 |a::l,i+1,x,h=>by
  simp only [List.getElem?_cons_succ] at h
  show (x::a::l.eraseIdx i).Perm (a::l)
  exact (List.Perm.swap ..).trans ((Ic l i x h).cons a)
theorem Hq {α:Type}[DecidableEq α]:∀{l m:List α},l.Nodup→(∀x∈l,x∈m)→l.length≤m.length
 |[],m,_,_=>Nat.zero_le _
 |a::l,m,n,h=>by
  have ⟨n1,n2⟩:=List.nodup_cons.mp n
  have ha:a∈m:=h a (List.mem_cons_self ..)
  have:=Hq (l:=l) (m:=m.erase a) n2 fun x hx=>(List.mem_erase_of_ne (fun e:x=a=>n1 (e▸hx))).mpr (h x (List.mem_cons_of_mem _ hx))
  rw [List.length_erase_of_mem ha] at this
  have:0<m.length:=List.length_pos_of_mem ha
  rw [List.length_cons]
  omega
theorem Kg {l:List Str}(h:Inc l):l.Nodup:=List.Pairwise.imp (S:=fun a b=>a≠b) (fun {a b} (h:lS a b) (e:a=b)=>Ie a (e▸h)) h
theorem Xf {names:List Str}{x:Str}:x∈Yt (fun i=>names.getD i ⟨#[]⟩) names.length↔x∈names:=by
 rw [Wj]
 constructor
 ·rintro ⟨j,h,rfl⟩
  rw [List.getD_eq_getElem?_getD,List.getElem?_eq_getElem h]
  exact List.getElem_mem h
 ·intro h
  obtain ⟨j,hj,e⟩:=List.mem_iff_getElem.mp h
  exact ⟨j,hj,by rw [List.getD_eq_getElem?_getD,List.getElem?_eq_getElem hj];exact e⟩
theorem Ad7 (names:List Str):(Yt (fun i=>names.getD i ⟨#[]⟩) names.length).length≤(Oh names).length:=
 Hq (Jx _ _) fun x hx=>Ev.mpr (Xf.mp hx)
end Lw
end
section
namespace Lw
open PySem PySem.Spec PyProof.Rows L2
def Jo (w:World):Bool:=w.params.followText "set-order"
def tx (e:Int×Value):Str:=strOf e.2
structure F0 (prog:Program)(w:World)(o:Obj)(ss:List Str)(es:Array (Int×Value))(ep:Nat)(t:SetTable):Prop where
 ex:o.ExactSet
 dat:o.data=.set es ep t
 el:ElemsOf (PySem.strKind prog w) es.toList
 pm:(es.toList.map tx).Perm ss
 fit:t.fits es.size=true
 bd:es.size<scanBound
 led:t.led=!Jo w
 pl:0<es.size→t.plain=false
def Nc (prog:Program)(w:World)(h:Heap)(a:Addr)(ss:List Str):Prop:=∃o es ep t,h.get? a=some o∧F0 prog w o ss es ep t
theorem F0.size {prog:Program}{w:World}{o:Obj}{ss:List Str}{es:Array (Int×Value)}{ep:Nat}{t:SetTable}(S:F0 prog w o ss es ep t):es.size=ss.length:=by
 rw [←S.pm.length_eq,List.length_map,Array.length_toList]
theorem Ql {t t':SetTable}{hs:Array Int}{n:Nat}{o:Array Nat}(h:t.relaid hs n=some (t',o)):t'.led=t.led∧t'.plain=t.plain:=by
 unfold SetTable.relaid SetTable.laid at h
 cases hl:SetTable.layClean (SetTable.sizeAbove n-1) hs with
 |none=>
  rw [hl] at h
  cases h
 |some ow=>
  rw [hl] at h
  cases h
  exact ⟨rfl,rfl⟩
theorem Li (t:SetTable)(es:Array (Int×Value))(n:Nat):(relayAll t es n).2.1.led=t.led∧(t.plain=false→(relayAll t es n).2.1.plain=false):=by
 unfold relayAll
 split
 ·rename_i t' o e
  obtain ⟨h1,h2⟩:=Ql e
  dsimp only
  split
  ·exact ⟨h1,fun h=>h2.trans h⟩
  ·exact ⟨rfl,fun _=>rfl⟩
 ·exact ⟨rfl,fun _=>rfl⟩
theorem N1 (t:SetTable)(n:Nat):(t.orStandIn n).led=t.led:=by
 unfold SetTable.orStandIn
 split<;>rfl
theorem Vk (t:SetTable)(es:Array (Int×Value))(h:Int)(x:Value):(layNew t es h x).2.1.led=t.led:=by
 unfold layNew
 split
 ·exact N1 _ _
 ·rfl
theorem Ae5 {prog:Program}{w:World}{k:Str}{e:Int×Value}(h:(PySem.strKind prog w).is k e.2=true):tx e=k:=by
 obtain ⟨t,z⟩:=Value.isStrOf_shape h
 unfold tx
 rw [z]
 rfl
theorem Aas {prog:Program}{w:World}{h:Heap}{a:Addr}{o:Obj}{ss ss':List Str}{es es':Array (Int×Value)}{ep:Nat}{t t':SetTable}(ho:h.get? a=some o)(S:F0 prog w o ss es ep t)
  (e1:ElemsOf (PySem.strKind prog w) es'.toList) (e2:(es'.toList.map tx).Perm ss') (e3:t'.fits es'.size=true) (e4:es'.size<scanBound) (e5:t'.led=!Jo w) (e6:t'.plain=false) :
  ∃o',(h.update a (Obj.putSet es' t')).get? a=some o'∧F0 prog w o' ss' es' (ep+1) t':=by
 have g:=Heap.get?_update_self (Obj.putSet es' t') ho (by rw [putSet_of es' t' S.dat];rfl)
 rw [putSet_of es' t' S.dat] at g
 exact ⟨_,g,⟨S.ex,rfl,e1,e2,e3,e4,e5,fun _=>e6⟩⟩
section
variable {prog:Program}{w:World}{A:Around}{E:Value→Shared→Prop}{s:Shared}
theorem Afh {f:Bool→Sem Unit}(hf:∀(b:Bool) (s1:Shared) (Q':Unit→Shared→Prop),Q' () s1→wpAny (model prog w) A (f b) Q' E s1){a:Addr}{o:Obj}{ss ss':List Str}{es es':Array (Int×Value)}{ep:Nat}{t t':SetTable}
  (ho:s.heap.get? a=some o) (S:F0 prog w o ss es ep t) (e1:ElemsOf (PySem.strKind prog w) es'.toList) (e2:(es'.toList.map tx).Perm ss') (e3:t'.fits es'.size=true) (e4:es'.size<scanBound) (e5:t'.led=!Jo w)
  (e6:t'.plain=false) {wd:Bool} {R:Option Bool→Shared→Prop} (q:∀g,Heap.SameBut a s.heap g→Nc prog w g a ss'→R (some true) { s with heap:=g }) :
  wpAny (model prog w) A (do
   storeSet a es' t'
   if (!wd&&t'.tooFull)=true then do { f (relayAll t' es' (SetTable.grown es'.size)).2.2;storeSet a (relayAll t' es' (SetTable.grown es'.size)).1 (relayAll t' es' (SetTable.grown es'.size)).2.1;pure (some true) } else pure (some true)) R E s:=by
 refine wpAny_bind (wpAny_storeSet_of ho S.dat ?_ (fits_of_scanBound e4))
 obtain ⟨o1,g1,S1⟩:=Aas ho S e1 e2 e3 e4 e5 e6
 have b1:=Heap.SameBut.update s.heap a (Obj.putSet es' t')
 split
 ·have r1:=relayAll_perm t' es' (SetTable.grown es'.size)
  have r2:=relayAll_fits t' es' (SetTable.grown es'.size)
  have r3:=Li t' es' (SetTable.grown es'.size)
  generalize relayAll t' es' (SetTable.grown es'.size)=L at r1 r2 r3 ⊢
  obtain ⟨fs,u,gv⟩:=L
  dsimp only at r1 r2 r3 ⊢
  have hz:fs.size=es'.size:=by rw [←Array.length_toList,r1.length_eq,Array.length_toList]
  have hb:fs.size<scanBound:=by rw [hz];exact e4
  refine wpAny_bind (hf _ _ _ (wpAny_bind (wpAny_storeSet_of g1 S1.dat ?_ (fits_of_scanBound hb))))
  obtain ⟨o2,g2,S2⟩:=Aas g1 S1 (e1.perm r1) ((r1.map tx).trans e2) r2 hb (r3.1.trans e5) (r3.2 e6)
  exact wpAny_pure (q _ (b1.trans (Heap.SameBut.update _ a _)) ⟨o2,fs,_,u,g2,S2⟩)
 ·exact wpAny_pure (q _ b1 ⟨o1,es',_,t',g1,S1⟩)
theorem Alv {a:Addr}{ss:List Str}{x:Str}{tk:Tok}{Q:Bool→Shared→Prop}(hS:Nc prog w s.heap a ss)(room:ss.length+1<scanBound)
  (q:∀b g,Heap.SameBut a s.heap g→Nc prog w g a (dd ss x)→Q b { s with heap:=g }):wpAny (model prog w) A (setAddHashed a (.str x tk) ((PySem.strKind prog w).hash x)) Q E s:=by
 obtain ⟨o,es,ep,t,ho,S⟩:=hS
 have key:(PySem.strKind prog w).is x (.str x tk)=true:=by
  show (x==x)=true
  simp
 have scn:(Value.str x tk).scannable=true:=rfl
 have hz:=S.size
 unfold setAddHashed setAddHashedIn
 refine wpAny_holding (wpAny_bind (wpAny_setState_of ho S.dat S.fit ?_))
 dsimp only
 rw [byScan_of scn S.bd S.el]
 simp only [↓reduceIte]
 unfold setAddByScan
 refine wpAny_bind (wpAny_bind (wpAny_rule (wpAny_bind (wpAny_setScan_of (knd:=PySem.strKind prog w) key ho S.dat S.fit S.el ?_))))
 cases hr:List.findIdx? (fun e=>(PySem.strKind prog w).is x e.2) es.toList with
 |some j=>
  dsimp only
  obtain ⟨hj,hp,_⟩:=List.findIdx?_eq_some_iff_getElem.mp hr
  have hx:x∈ss:=S.pm.mem_iff.mp (List.mem_map.mpr ⟨_,List.getElem_mem hj,Ae5 hp⟩)
  refine wpAny_pure (wpAny_pure ?_)
  refine q false s.heap (Heap.SameBut.refl a s.heap) ⟨o,es,ep,t,ho,?_⟩
  rw [show dd ss x=ss from if_pos hx]
  exact S
 | none=>
  dsimp only
  have hx:x∉ss:=fun h=>by
   obtain ⟨e,he,z⟩:=List.mem_map.mp (S.pm.mem_iff.mpr h)
   obtain ⟨⟨k,hk,_⟩,_⟩:=S.el e he
   have z':=(Ae5 hk).symm.trans z
   subst z'
   have:=List.findIdx?_eq_none_iff.mp hr e he
   rw [hk] at this
   cases this
  have gw:∀(b:Bool) (s1:Shared) (Q':Unit→Shared→Prop),Q' () s1→wpAny (model prog w) A (match b with|true=>rule "set.scan.the-table-gave-way"|false=>pure ()) Q' E s1:=fun b s1 Q' h=>by
   cases b with
   |true=>exact wpAny_rule h
   |false=>exact wpAny_pure h
  have r1:=layNew_perm t es ((PySem.strKind prog w).hash x) (.str x tk)
  have r2:=layNew_fits t es ((PySem.strKind prog w).hash x) (.str x tk)
  have r3:=Vk t es ((PySem.strKind prog w).hash x) (.str x tk)
  generalize layNew t es ((PySem.strKind prog w).hash x) (.str x tk)=L at r1 r2 r3 ⊢
  obtain ⟨fs,u,wd,gv⟩:=L
  dsimp only at r1 r2 r3 ⊢
  rw [Array.toList_push] at r1
  have f1:ElemsOf (PySem.strKind prog w) fs.toList:=(S.el.push key scn).perm r1
  have f2:(fs.toList.map tx).Perm (dd ss x):=by
   rw [show dd ss x=ss++[x] from if_neg hx]
   refine (r1.map tx).trans ?_
   rw [List.map_append]
   exact S.pm.append_right _
  have fz:fs.size=es.size+1:=by rw [←Array.length_toList,r1.length_eq,List.length_append,Array.length_toList];rfl
  have fb:fs.size<scanBound:=by rw [fz,hz];exact room
  have fin:∀g,Heap.SameBut a s.heap g→Nc prog w g a (dd ss x)→wpAny (model prog w) A (pure true) Q E { s with heap:=g }:=fun g b h=>wpAny_pure (q true g b h)
  refine wpAny_bind (gw _ _ _ ?_)
  split
  ·refine wpAny_bind ?_
   rw [hashByValue_scannable 8 scn]
   refine wpAny_pure ?_
   refine Afh gw ho S f1 f2 (SetTable.fits_plain_off r2) fb (r3.trans S.led) rfl ?_
   intro g b h
   dsimp only
   exact fin g b h
  ·rename_i np
   refine wpAny_bind (wpAny_pure ?_)
   simp only [↓reduceIte]
   refine Afh gw ho S f1 f2 r2 fb (r3.trans S.led) (by simpa using np) ?_
   intro g b h
   dsimp only
   exact fin g b h
theorem Wz (val:Nat→Str):∀i,(Yt val i).length≤i
 |0=>Nat.le_refl _
 | i+1=>by
  have h:=Wz val i
  rw [Jh]
  unfold dd
  split
  ·omega
  ·rw [List.length_append,List.length_singleton]
   omega
theorem Akg {R:Result→Shared→Prop}{I:Addr}{fp wr:List Addr}{G:Array GenState→Array GenState→Prop}{n:Nat}{P:Nat→Value→Prop}{St:Nat→Shared→Prop}(W:WalksS prog w A.in1 I fp wr G n P St)(S:Addr)(nS:S∉fp)
  (val:Nat→Str) (hv:∀i v,P i v→∃t,v=.str (val i) t) (hb:n+1<scanBound):∀(k i:Nat) (s:Shared),n-i=k→i≤n→St i s→Nc prog w s.heap S (Yt val i) →
   (∀s',Moved (S::wr) G s s'→Nc prog w s'.heap S (Yt val n)→R (.ok (.ret .none)) s')→codeAny (model prog w) A (.builtin "set.update.loop" ⟨[.ref S,.ref I],[]⟩) R s:=by
 have nw:S∉wr:=fun h=>nS (W.sub _ h)
 have sub:∀b∈wr,b∈S::wr:=fun b hb=>List.mem_cons_of_mem _ hb
 have keepS:∀{s s':Shared} {ss:List Str},Moved wr G s s'→Nc prog w s.heap S ss→Nc prog w s'.heap S ss:=fun m ⟨o,es,ep,t,h,z⟩=>⟨o,es,ep,t,m.heap S _ nw h,z⟩
 intro k
 induction k with
 |zero=>
  intro i s hk hi st hS hR
  have e:i=n:=by omega
  subst e
  refine codeAny_builtin PyProof.Rows.F.entry_set_update_loop ?_
  rw [Around.under_plainId PyProof.Rows.F.plain_set_update_loop _]
  show wpAny _ A.in1 (pyNext (.ref I) >>= _) _ _ s
  refine wpAny_bind (W.done s _ _ st fun s' m=>wpAny_pure (hR s' (m.mono sub) (keepS m hS)))
 | succ k ih=>
  intro i s hk hi st hS hR
  have lt:i<n:=by omega
  refine codeAny_builtin PyProof.Rows.F.entry_set_update_loop ?_
  rw [Around.under_plainId PyProof.Rows.F.plain_set_update_loop _]
  show wpAny _ A.in1 (pyNext (.ref I) >>= _) _ _ s
  refine wpAny_bind (W.item i s _ _ lt st fun v s' hP st' m=>?_)
  obtain ⟨t,rfl⟩:=hv i v hP
  have hS':=keepS m hS
  show wpAny _ A.in1 (holding [Value.str (val i) t] (setAdd S (.str (val i) t)) >>= _) _ _ s'
  refine wpAny_bind (wpAny_holding ?_)
  unfold setAdd
  refine wpAny_holding (wpAny_bind ((PySem.strKind prog w).pyHash (k:=val i) (by show (val i==val i)=true;simp) ?_))
  have room:(Yt val i).length+1<scanBound:=by have:=Wz val i;omega
  refine Alv (s:={ s' with toks:=s'.toks+1 }) hS' room fun b g sb hS2=>?_
  rw [←Jh] at hS2
  refine wpAny_pure ⟨plainId_quiet PyProof.Rows.F.plain_set_update_loop _,ih (i+1) _ (by omega) lt (W.frame _ s' _ _ st' (Nat.le_succ _) fun c hc o e=>?_) hS2 fun s2 m2 z2=>?_⟩
  ·rw [sb.2 c (fun h:c=S=>nS (h▸hc))]
   exact e
  ·refine hR s2 (Moved.trans W.gtrans ((m.mono sub).then_heap (Nat.le_succ _) fun c o hc e=>?_) m2) z2
   rw [sb.2 c (fun h:c=S=>hc (by rw [h];exact List.mem_cons_self))]
   exact e
def fsO (w:World):Obj:={ cls:=.type "set",dict:=none,data:=.set #[] 0 (.fresh 0 0 (!Jo w)) }
theorem fsS (h:Heap):Nc prog w (h.push (fsO w)) h.objs.size []:=
 ⟨fsO w,#[],0,_,Heap.get?_push_size _ rfl,⟨⟨rfl,rfl,rfl⟩,rfl,fun e he=>by simp at he,List.Perm.refl _,rfl,by decide,rfl,fun h=>absurd h (by decide)⟩⟩
theorem Aan (v:Value){Q:Value→Shared→Prop}(q:Q (.ref s.heap.objs.size) { s with heap:=s.heap.push (fsO w) }):codeAny (model prog w) A (.call (.builtin "set.__new__") ⟨[.type "set",v],[]⟩) (wants Q E) s:=by
 refine codeAny_of_tree ?_
 show wpAny _ A.in1 (do { checkBuiltinCall "set.__new__" ⟨[.type "set",v],[]⟩;again (.builtin "set.__new__" ⟨[.type "set",v],[]⟩) }) _ _ s
 refine wpAny_bind (wpAny_of_eq (PySem.F.newCall_set_1 v) (wpAny_pure ⟨plainId_quiet PySem.F.plain_set_new _,codeAny_builtin PySem.F.entry_set_new ?_⟩))
 rw [Around.under_plainId PySem.F.plain_set_new _];unfold Builtin.«set.__new__» Builtin.Frozenset.newClass
 have sub:=sub_set_self;obtain ⟨hp,g,d,tk,os⟩:=s;dsimp only
 wp_walk
 refine wpAny_askSetting (wpAny_pure ?_);dsimp only;simp only [newObj]
 refine wpAny_bind (wpAny_alloc (wpAny_pure (wpAny_pure ?_)))
 exact q
theorem W7:∀{vs:List Value} {ss:List Str},StrsAre vs ss→∀(i:Nat) (v:Value),vs[i]? =some v→∃t,v=.str (ss.getD i ⟨#[]⟩) t
 |_,_,.nil,i,v,h=>by simp at h
 |_,_,.cons x t r,0,v,h=>by
  simp at h
  exact ⟨t,h.symm⟩
 |_,_,.cons x t r,i+1,v,h=>by
  simp only [List.getElem?_cons_succ] at h
  obtain ⟨t',e⟩:=W7 r i v h
  exact ⟨t',by rw [e];rfl⟩
theorem Xo {l:Addr}{vs:List Value}{ss:List Str}{Q:Value→Shared→Prop}(hh:A.handled=none)(hl:s.heap.IsList l vs.toArray)(hi:StrsAre vs ss)(hb:vs.length+1<scanBound)
  (q:∀g tk,Nc prog w g s.heap.objs.size (Yt (fun i=>ss.getD i ⟨#[]⟩) vs.length)→(∀b o,s.heap.get? b=some o→g.get? b=some o)→Q (.ref s.heap.objs.size) { s with heap:=g,toks:=tk }) :
  wpAny (model prog w) A (call (.type "set") [.ref l]) Q E s:=by
 obtain ⟨c,tl,mro⟩:=PySem.F.called_set.mro
 have made:=PySem.F.called_set.made
 have sub:=PySem.F.called_set.sub
 refine wpAny_call (codeAny_of_tree ?_)
 show wpAny _ _ (callAny (.type "set") _) _ _ _
 refine wpAny_pure ⟨Code.quiet_builtin _ (by decide +kernel),codeAny_builtin PySem.F.entry_type_call ?_⟩
 rw [Around.under_plain (weight_type_call_type "set" [.ref l] []) rfl]
 have z1:=PySem.F.called_set.notType
 have z2:=PySem.F.called_set.canCreate
 have z3:=PySem.F.typeCall_set_1 (.ref l)
 repeat (any_goals (first|assumption|wp_step))
 refine codeAny_mono (Aan (.ref l) (E:=E) (Q:=fun v s1=>v=.ref s.heap.objs.size∧s1={ s with heap:=s.heap.push (fsO w) }) ⟨rfl,rfl⟩) fun r s1 hr=>?_
 match r,hr with
 |.error e,hr=>exact hr
 | .ok (.ret v),hr=>
  obtain ⟨rfl,rfl⟩:=hr
  have gS:(s.heap.push (fsO w)).get? s.heap.objs.size=some (fsO w):=Heap.get?_push_size _ rfl
  have ty:Shared.TypeIs { s with heap:=s.heap.push (fsO w) } (.ref s.heap.objs.size) "set":=⟨_,gS,rfl⟩
  have z4:=PySem.F.called_set.init.lookup
  have z5:=PySem.F.called_set.init.bind (.ref s.heap.objs.size)
  repeat (any_goals (first|assumption|wp_step))
  refine codeAny_mono (codeAny_call_builtin (R:=wants (fun r s2=>r=.none∧∃g tk,s2={ s with heap:=g,toks:=tk }∧Nc prog w g s.heap.objs.size (Yt (fun i=>ss.getD i ⟨#[]⟩) vs.length)∧∀b o,s.heap.get? b=some o→g.get? b=some o) E)
   PySem.F.called_set.init.plain PySem.F.entry_set_init (check_set_init_1 ty ?_)) fun r2 s2 hr2=>?_
  ·obtain ⟨ol,hol,hcl,nl,hdl⟩:=hl
   obtain ⟨oc,od,odt,osl⟩:=ol
   simp only at hcl hdl
   subst hcl hdl
   have hol1:(s.heap.push (fsO w)).get? l=some { cls:=.type "list",dict:=od,data:=.seq vs.toArray nl,slots:=osl }:=Heap.get?_push_of_some _ hol
   have gS1:(s.heap.push (fsO w)).get? s.heap.objs.size=some { cls:=.type "set",dict:=none,data:=.set #[] 0 (.fresh 0 0 (!Jo w)) }:=gS
   have z6:=PySem.F.sub_list_set
   have z7:=PySem.F.sub_list_frozenset
   have z8:(Value.type "list"==Value.type "dict")=false:=by decide
   have hl1:(s.heap.push (fsO w)).IsList l vs.toArray:=⟨_,hol1,rfl,nl,rfl⟩
   have lt:l<s.heap.objs.size:=Heap.lt_size hol
   clear gS hol
   generalize hg:s.heap.push (fsO w)=g0 at *
   unfold Builtin.«set.__init__» noKeywords Builtin.Frozenset.updateFrom
   generalize hPI:pyIter=PI
   wp_walk
   subst hPI
   refine wpAny_pyIter_list hl1 ?_
   refine wpAny_bind (wpAny_runValue ?_)
   have sz:g0.objs.size=s.heap.objs.size+1:=by rw [←hg];exact Heap.size_push ..
   have neI:l≠g0.objs.size:=by rw [sz];exact Nat.ne_of_lt (Nat.lt_succ_of_lt lt)
   have nf:s.heap.objs.size∉[g0.objs.size,l]:=by
    rw [sz]
    simp only [List.mem_cons,List.not_mem_nil,or_false,not_or]
    exact ⟨Nat.ne_of_lt (Nat.lt_succ_self _),Nat.ne_of_gt lt⟩
   have hval:∀(i:Nat) (v:Value),vs.toArray[i]? =some v→∃t,v=.str ((fun i=>ss.getD i ⟨#[]⟩) i) t:=fun i v hv=>W7 hi i v (by rw [←hv];simp)
   refine Akg ((Walks.list (by simp [hh]) _ l neI vs.toArray).toS) s.heap.objs.size nf (fun i=>ss.getD i ⟨#[]⟩) hval (by simpa using hb) (vs.toArray.size-0) 0 _ (by omega) (Nat.zero_le _) ⟨⟨_,Heap.get?_push_size _ rfl,rfl,rfl⟩,hl1.push _⟩ ?hS0 ?hR
   case hS0=>
    obtain ⟨o,es,ep,t,h1,h2⟩:=fsS (prog:=prog) (w:=w) s.heap
    rw [hg] at h1
    exact ⟨o,es,ep,t,Heap.get?_push_of_some _ h1,h2⟩
   case hR=>
    intro s' m hS'
    obtain ⟨g',gn,dr,tk,os⟩:=s'
    obtain ⟨m1,m2,m3,m4,m5⟩:=m
    dsimp only at m1 m2 m3 m4 m5
    subst m2 m3 m4
    show wpAny _ _ _ _ _ _
    refine wpAny_pure ?_
    show wpAny _ _ (ret Value.none) _ _ _
    refine wpAny_pure ⟨rfl,g',tk,rfl,?_,fun b o e=>m1 b o ?_ (Heap.get?_push_of_some _ ?_)⟩
    ·simpa using hS'
    ·have hb:=Heap.lt_size e
     rw [sz]
     simp only [List.mem_cons,List.not_mem_nil,or_false,not_or]
     exact ⟨Nat.ne_of_lt hb,Nat.ne_of_lt (Nat.lt_succ_of_lt hb)⟩
    ·rw [←hg]
     exact Heap.get?_push_of_some _ e
  ·match r2,hr2 with
   |.error e,hr2=>exact hr2
   |.ok (.ret v),hr2=>
    obtain ⟨rfl,g,tk,rfl,h1,h2⟩:=hr2
    repeat (any_goals (first|assumption|wp_step))
    exact q _ _ h1 h2
   |.ok .next,hr2=>exact hr2.elim
   |.ok .brk,hr2=>exact hr2.elim
   |.ok .cont,hr2=>exact hr2.elim
 |.ok .next,hr=>exact hr.elim
 |.ok .brk,hr=>exact hr.elim
 |.ok .cont,hr=>exact hr.elim
end
end Lw
end
section
namespace Lw
open PySem PySem.Spec PyProof.Rows L2
theorem Bi:Slot "set_iterator" "__next__" "set_iterator.__next__":=.of (owner:="set_iterator") (n:="__next__") (by rw [typeLookup_type,builtinLookup_eq_fast];kernel_rfl) (by decide +kernel) (by decide +kernel) (by decide +kernel) (by first|exact .inl (by decide +kernel)|exact .inr (by decide +kernel)) (by rw [isSubtype_type];kernel_rfl)
theorem Ey:entryFor table "set_iterator.__next__"=some Builtin.«set_iterator.__next__»:=entryFor_of_tree (by kernel_rfl)
theorem Sb:entryFor table "set.__iter__"=some Builtin.«frozenset.__iter__»:=entryFor_alias (id':="frozenset.__iter__") (by kernel_rfl) rfl (by decide +kernel) (by kernel_rfl)
def SI (h:Heap)(I:Addr)(f:Value)(i:Nat)(a:Addr)(n ep:Nat):Prop:=∃o,h.get? I=some o∧o.cls=.type "set_iterator"∧o.data=.fields #[f,.int i 0,.ref a,.int n 0,.int ep 0]
theorem SI.mv {h h':Heap}{I a:Addr}{f:Value}{i n ep:Nat}(x:SI h I f i a n ep)(q:∀o,h.get? I=some o→h'.get? I=some o):SI h' I f i a n ep:=by
 obtain ⟨o,e,r⟩:=x
 exact ⟨o,q o e,r⟩
theorem V4 {α:Type}(nx:Nat→Nat):∀(fuel k:Nat) (left:List α) (out:Array α),left.length=fuel→(pickOrder.go nx fuel k left out).toList.Perm (out.toList++left)
 |0,k,left,out,h=>by
  have:left=[]:=List.length_eq_zero_iff.mp h
  subst this
  rw [List.append_nil]
  exact List.Perm.refl _
 |fuel+1,k,left,out,h=>by
  have hp:0<left.length:=by omega
  have hj:nx k % left.length<left.length:=Nat.mod_lt _ hp
  have e:left[nx k % left.length]? =some left[nx k % left.length]:=List.getElem?_eq_getElem hj
  unfold pickOrder.go
  rw [e]
  dsimp only
  refine (V4 nx fuel (k+1) _ _ (by rw [List.length_eraseIdx_of_lt hj,h];rfl)).trans ?_
  rw [Array.toList_push,List.append_assoc]
  exact (Ic left _ _ e).append_left _
theorem Fh {α:Type}(nx:Nat→Nat)(xs:Array α):(pickOrder nx xs).toList.Perm xs.toList:=by
 have:=V4 nx xs.size 0 xs.toList #[] (by simp)
 simpa [pickOrder] using this
section
variable {prog:Program}{w:World}{A:Around}{E:Value→Shared→Prop}{s:Shared}
theorem Ahd {M:Model}{src:Source}{n:Nat}{Q:Nat→Shared→Prop}(hn:n≠0)(q:∀i d,i<n→Q i { s with drawn:=d }):wpAny M A (choose src n) Q E s:=
 fun _ _ _=>⟨hn,q _ _ (Nat.mod_lt _ (Nat.pos_of_ne_zero hn))⟩
theorem Ol {M:Model}{α:Type}:∀(n:Nat) (xs:List α) (s:Shared) {Q:List α→Shared→Prop},xs.length=n→(∀ys d,ys.Perm xs→Q ys { s with drawn:=d })→wpAny M A (drawOrder n xs) Q E s
 |0,xs,s,Q,h,q=>by
  have:xs=[]:=List.length_eq_zero_iff.mp h
  subst this
  unfold drawOrder
  exact wpAny_pure (q [] s.drawn (List.Perm.refl _))
 |n+1,[],s,Q,h,q=>by simp at h
 |n+1,x::xs,s,Q,h,q=>by
  unfold drawOrder
  refine wpAny_bind (Ahd (by simp) fun i d hi=>?_)
  have e:(x::xs)[i]? =some (x::xs)[i]:=List.getElem?_eq_getElem hi
  rw [e]
  dsimp only
  refine wpAny_bind (Ol n _ _ (by rw [List.length_eraseIdx_of_lt hi,h];rfl) fun ys d' hp=>wpAny_pure ?_)
  exact q _ d' ((hp.cons _).trans (Ic _ _ _ e))
theorem Lr {I a:Addr}{slot nx i:Nat}{o:Obj}{ss:List Str}{es:Array (Int×Value)}{ep:Nat}{t:SetTable}{x:Value}{Q:Option Value→Shared→Prop}(hit:SI s.heap I (.int slot 0) i a es.size ep)(ho:s.heap.get? a=some o)(S:F0 prog w o ss es ep t)
  (hn:∀(Q':Option (Value×Nat)→Shared→Prop) (E':Value→Shared→Prop),Q' (some (x,nx)) s→wpAny (model prog w) A.in1 (setNext a slot i ep) Q' E' s)
  (q:∀g,SI g I (.int nx 0) (i+1) a es.size ep→Heap.SameBut I s.heap g→Q (some x) { s with heap:=g }):wpAny (model prog w) A (pyNext (.ref I)) Q E s:=by
 obtain ⟨io,e1,c1,d1⟩:=id hit
 have ty:s.TypeIs (.ref I) "set_iterator":=⟨io,e1,c1⟩
 unfold pyNext
 refine wpAny_bind (wpAny_attempt (wpAny_callSpecial?_slot (name:=Str.ofString "__next__") ty Bi (wpAny_call_entry Bi ty Ey ?_)))
 unfold Builtin.«set_iterator.__next__»
 refine wpAny_bind (m:=slotArgs "__next__" 0 _) (wpAny_pure ?_)
 refine wpAny_bind (wpAny_fieldsOf e1 d1 ?_)
 dsimp only
 refine wpAny_bind (wpAny_setEntries_of ho S.dat S.fit ?_)
 simp only [bne_self_eq_false,Bool.false_eq_true,if_false,Int.toNat_natCast]
 refine wpAny_bind (hn _ _ ?_)
 dsimp only
 refine wpAny_bind (wpAny_setField e1 d1 (by simp) ?_)
 have g1:=Heap.get?_update_self (Obj.mapFields (·.setIfInBounds 0 (rawInt (nx:Int)))) e1 (Obj.isFreed_of_fields (Obj.data_mapFields d1 _))
 have d2:=Obj.data_mapFields d1 (·.setIfInBounds 0 (rawInt (nx:Int)))
 refine wpAny_bind (wpAny_setField g1 d2 (by simp) ?_)
 refine wpAny_pure ⟨_,rfl,wpAny_pure (q _ ?_ ((Heap.SameBut.update ..).trans (Heap.SameBut.update ..)))⟩
 refine ⟨_,Heap.get?_update_self _ g1 (Obj.isFreed_of_fields (Obj.data_mapFields d2 _)),(Obj.cls_mapFields ..).trans ((Obj.cls_mapFields ..).trans c1),?_⟩
 rw [Obj.data_mapFields d2]
 simp [rawInt]
theorem O7 {I a:Addr}{slot i:Nat}{o:Obj}{ss:List Str}{es:Array (Int×Value)}{ep:Nat}{t:SetTable}{Q:Option Value→Shared→Prop}(hh:A.handled=none)(hit:SI s.heap I (.int slot 0) i a es.size ep)(ho:s.heap.get? a=some o)(S:F0 prog w o ss es ep t)
  (hn:∀(Q':Option (Value×Nat)→Shared→Prop) (E':Value→Shared→Prop),Q' none s→wpAny (model prog w) A.in1 (setNext a slot i ep) Q' E' s)
  (q:∀g,Heap.ExtBut I s.heap g→Q none { s with heap:=g }):wpAny (model prog w) A (pyNext (.ref I)) Q E s:=by
 obtain ⟨io,e1,c1,d1⟩:=id hit
 have ty:s.TypeIs (.ref I) "set_iterator":=⟨io,e1,c1⟩
 unfold pyNext
 refine wpAny_bind (wpAny_attempt (wpAny_callSpecial?_slot (name:=Str.ofString "__next__") ty Bi (wpAny_call_entry Bi ty Ey ?_)))
 unfold Builtin.«set_iterator.__next__»
 refine wpAny_bind (m:=slotArgs "__next__" 0 _) (wpAny_pure ?_)
 refine wpAny_bind (wpAny_fieldsOf e1 d1 ?_)
 dsimp only
 refine wpAny_bind (wpAny_setEntries_of ho S.dat S.fit ?_)
 simp only [bne_self_eq_false,Bool.false_eq_true,if_false,Int.toNat_natCast]
 refine wpAny_bind (hn _ _ ?_)
 dsimp only
 refine wpAny_bind (wpAny_setField e1 d1 (by simp) ?_)
 show wpAny _ _ (newExc (.type "StopIteration") [] >>= _) _ _ _;refine wpAny_bind ?_;simp only [newExc,newTuple]
 refine wpAny_bind (wpAny_newObj_type ?_ (by size_fits));refine wpAny_bind (m:=firstArgMember _ _) (wpAny_of_eq (a:=Value.none) (by first|rfl|(simp only [firstArgMember];rfl)) ?_)
 refine wpAny_newObj_type ?_ (by size_fits);simp only [raiseNew];refine wpAny_bind (wpAny_handled ?_);rw [show A.in1.handled=none from hh]
 refine wpAny_bind (wpAny_pure (wpAny_throw ?_))
 exact wpAny_bind (wpAny_isInstance (T:="StopIteration") (b:=true) ⟨_,Heap.get?_push_size _ rfl,rfl⟩ isSubtype_stop (wpAny_pure (q _ (((Heap.SameBut.update ..).extBut.push _).push _))))
theorem Ux {I a T:Addr}{i p:Nat}{o oT:Obj}{ss:List Str}{es:Array (Int×Value)}{ep nT:Nat}{t:SetTable}{vs:Array Value}{x:Int×Value}{Q:Option Value→Shared→Prop}(hit:SI s.heap I (.ref T) i a es.size ep)(ho:s.heap.get? a=some o)(S:F0 prog w o ss es ep t)
  (hT:s.heap.get? T=some oT) (dT:oT.data=.seq vs nT) (hv:vs[i]? =some (.int p 0)) (hx:es[p]? =some x)
  (q:∀g,SI g I (.ref T) (i+1) a es.size ep→Heap.SameBut I s.heap g→Q (some x.2) { s with heap:=g }):wpAny (model prog w) A (pyNext (.ref I)) Q E s:=by
 obtain ⟨io,e1,c1,d1⟩:=id hit
 have ty:s.TypeIs (.ref I) "set_iterator":=⟨io,e1,c1⟩
 unfold pyNext
 refine wpAny_bind (wpAny_attempt (wpAny_callSpecial?_slot (name:=Str.ofString "__next__") ty Bi (wpAny_call_entry Bi ty Ey ?_)))
 unfold Builtin.«set_iterator.__next__»
 refine wpAny_bind (m:=slotArgs "__next__" 0 _) (wpAny_pure ?_)
 refine wpAny_bind (wpAny_fieldsOf e1 d1 ?_)
 dsimp only
 refine wpAny_bind (wpAny_setEntries_of ho S.dat S.fit ?_)
 simp only [bne_self_eq_false,Bool.false_eq_true,if_false,Int.toNat_natCast]
 refine wpAny_bind (wpAny_seqItems hT dT ?_)
 dsimp only
 rw [hv]
 dsimp only
 simp only [Int.toNat_natCast]
 unfold setNextDrawn
 refine wpAny_bind (wpAny_bind (wpAny_setState_of ho S.dat S.fit ?_))
 dsimp only
 simp only [bne_self_eq_false,Bool.false_eq_true,if_false]
 rw [hx]
 dsimp only
 refine wpAny_pure ?_
 refine wpAny_bind (wpAny_setField e1 d1 (by simp) (wpAny_pure ⟨_,rfl,wpAny_pure (q _ ?_ (Heap.SameBut.update ..))⟩))
 refine ⟨_,Heap.get?_update_self _ e1 (Obj.isFreed_of_fields (Obj.data_mapFields d1 _)),(Obj.cls_mapFields ..).trans c1,?_⟩
 rw [Obj.data_mapFields d1]
 simp [rawInt]
theorem Yx {I a T:Addr}{i:Nat}{o oT:Obj}{ss:List Str}{es:Array (Int×Value)}{ep nT:Nat}{t:SetTable}{vs:Array Value}{Q:Option Value→Shared→Prop}(hh:A.handled=none)(hit:SI s.heap I (.ref T) i a es.size ep)(ho:s.heap.get? a=some o)(S:F0 prog w o ss es ep t)
  (hT:s.heap.get? T=some oT) (dT:oT.data=.seq vs nT) (hv:vs[i]? =none)
  (q:∀g,Heap.ExtBut I s.heap g→Q none { s with heap:=g }):wpAny (model prog w) A (pyNext (.ref I)) Q E s:=by
 obtain ⟨io,e1,c1,d1⟩:=id hit
 have ty:s.TypeIs (.ref I) "set_iterator":=⟨io,e1,c1⟩
 unfold pyNext
 refine wpAny_bind (wpAny_attempt (wpAny_callSpecial?_slot (name:=Str.ofString "__next__") ty Bi (wpAny_call_entry Bi ty Ey ?_)))
 unfold Builtin.«set_iterator.__next__»
 refine wpAny_bind (m:=slotArgs "__next__" 0 _) (wpAny_pure ?_)
 refine wpAny_bind (wpAny_fieldsOf e1 d1 ?_)
 dsimp only
 refine wpAny_bind (wpAny_setEntries_of ho S.dat S.fit ?_)
 simp only [bne_self_eq_false,Bool.false_eq_true,if_false,Int.toNat_natCast]
 refine wpAny_bind (wpAny_seqItems hT dT ?_)
 dsimp only
 rw [hv]
 dsimp only
 refine wpAny_bind (wpAny_setField e1 d1 (by simp) ?_)
 have g1:=Heap.get?_update_self (Obj.mapFields (·.setIfInBounds 0 (rawInt 0))) e1 (Obj.isFreed_of_fields (Obj.data_mapFields d1 _))
 have d2:=Obj.data_mapFields d1 (·.setIfInBounds 0 (rawInt 0))
 refine wpAny_bind (wpAny_setField g1 d2 (by simp) ?_)
 show wpAny _ _ (newExc (.type "StopIteration") [] >>= _) _ _ _;refine wpAny_bind ?_;simp only [newExc,newTuple]
 refine wpAny_bind (wpAny_newObj_type ?_ (by size_fits));refine wpAny_bind (m:=firstArgMember _ _) (wpAny_of_eq (a:=Value.none) (by first|rfl|(simp only [firstArgMember];rfl)) ?_)
 refine wpAny_newObj_type ?_ (by size_fits);simp only [raiseNew];refine wpAny_bind (wpAny_handled ?_);rw [show A.in1.handled=none from hh]
 refine wpAny_bind (wpAny_pure (wpAny_throw ?_))
 exact wpAny_bind (wpAny_isInstance (T:="StopIteration") (b:=true) ⟨_,Heap.get?_push_size _ rfl,rfl⟩ isSubtype_stop (wpAny_pure (q _ ((((Heap.SameBut.update ..).trans (Heap.SameBut.update ..)).extBut.push _).push _))))
theorem Wm {a:Addr}{slot i:Nat}{o:Obj}{ss:List Str}{es:Array (Int×Value)}{ep:Nat}{t:SetTable}{Q:Option (Value×Nat)→Shared→Prop}(ho:s.heap.get? a=some o)(S:F0 prog w o ss es ep t)(hb:Jo w=true)
  (q:Q (((pickOrder (w.params.setOrder a ep) es)[i]?).map fun e=>(e.2,slot)) s):wpAny (model prog w) A (setNext a slot i ep) Q E s:=by
 have hb':(model prog w).w.params.followText "set-order"=true:=hb
 unfold setNext
 refine wpAny_bind (wpAny_setState_of ho S.dat S.fit ?_)
 dsimp only
 unfold setsByText
 refine wpAny_bind (wpAny_bind (wpAny_askSetting (wpAny_pure ?_)))
 dsimp only
 rw [hb']
 simp only [↓reduceIte,bne_self_eq_false,Bool.false_eq_true,if_false]
 unfold setWalk
 refine wpAny_bind (wpAny_bind (wpAny_setState_of ho S.dat S.fit ?_))
 dsimp only
 unfold setsByText
 refine wpAny_bind (wpAny_bind (wpAny_askSetting (wpAny_pure ?_)))
 dsimp only
 rw [hb']
 simp only [↓reduceIte]
 refine wpAny_bind (wpAny_askSetting (wpAny_pure (wpAny_pure ?_)))
 exact q
theorem Ss {a:Addr}{slot i:Nat}{o:Obj}{ss:List Str}{es:Array (Int×Value)}{ep:Nat}{t:SetTable}{Q:Option (Value×Nat)→Shared→Prop}(ho:s.heap.get? a=some o)(S:F0 prog w o ss es ep t)(hb:Jo w=false)(hz:es.size≤1)
  (q:Q (match es[SetTable.below t.place slot]?,t.place[SetTable.below t.place slot]? with|some (_,x),some j=>some (x,j+1)|_,_=>none) s):wpAny (model prog w) A (setNext a slot i ep) Q E s:=by
 have hb':(model prog w).w.params.followText "set-order"=false:=hb
 have hl:t.led=true:=by rw [S.led,hb];rfl
 unfold setNext
 refine wpAny_bind (wpAny_setState_of ho S.dat S.fit ?_)
 dsimp only
 unfold setsByText
 refine wpAny_bind (wpAny_bind (wpAny_askSetting (wpAny_pure ?_)))
 dsimp only
 rw [hb']
 simp only [Bool.false_eq_true,if_false]
 split
 ·rename_i h
  have h':(!t.plain&&decide (es.size>1))=true:=h
  have:decide (es.size>1)=false:=decide_eq_false (by omega)
  rw [this,Bool.and_false] at h'
  cases h'
 ·refine wpAny_bind ?_
  show wpAny _ _ (if (!t.led&&!es.isEmpty)=true then _ else _) _ _ _
  rw [hl,if_neg (by simp)]
  exact wpAny_pure (wpAny_pure q)
theorem Agx (p:Nat):SetTable.below #[p] 0=0:=by
 unfold SetTable.below
 simp [SetTable.below.go]
theorem Af2 (p:Nat):SetTable.below #[p] (p+1)=1:=by
 unfold SetTable.below
 simp [SetTable.below.go]
theorem Ky:Slot "set_iterator" "__iter__" "set_iterator.__iter__":=.of (owner:="set_iterator") (n:="__iter__") (by rw [typeLookup_type,builtinLookup_eq_fast];kernel_rfl) (by decide +kernel) (by decide +kernel) (by decide +kernel) (by first|exact .inl (by decide +kernel)|exact .inr (by decide +kernel)) (by rw [isSubtype_type];kernel_rfl)
theorem Tc:entryFor table "set_iterator.__iter__"=some Builtin.«dict_keyiterator.__iter__»:=entryFor_alias (id':="dict_keyiterator.__iter__") (by kernel_rfl) rfl (by decide +kernel) (by kernel_rfl)
theorem Ng {I a:Addr}{f:Value}{i n ep:Nat}{Q:Value→Shared→Prop}(hit:SI s.heap I f i a n ep)(q:Q (.ref I) s):wpAny (model prog w) A (pyIter (.ref I)) Q E s:=by
 obtain ⟨io,e1,c1,d1⟩:=hit
 have ty:s.TypeIs (.ref I) "set_iterator":=⟨io,e1,c1⟩
 refine wpAny_pyIter_slot ty Ky (wpAny_call_entry Ky ty Tc ?_)
 show wpAny _ _ (ret (.ref I)) _ _ s
 exact wpAny_pure ⟨_,rfl,"set_iterator",_,ty,Bi.lookup,q⟩
theorem Fp {I:Addr}{g:Heap}(sb:Heap.ExtBut I s.heap g):Moved [I] (fun a b=>b=a) s { s with heap:=g } :=
 ⟨fun b o hb e=>sb b o (fun z=>hb (by rw [z];exact List.mem_cons_self)) e,rfl,rfl,rfl,Nat.le_refl _⟩
theorem Ac6 {I a:Addr}{o:Obj}{ss:List Str}{es:Array (Int×Value)}{ep:Nat}{t:SetTable}(S:F0 prog w o ss es ep t)(hb:Jo w=true)(ne:a≠I){B:Around}(hh:B.handled=none) :
  WalksS prog w B I [I,a] [I] (fun a b=>b=a) es.size (fun i v=>((pickOrder (w.params.setOrder a ep) es).toList.map (·.2))[i]? =some v) (fun i s=>SI s.heap I (.int (0:Nat) 0) i a es.size ep∧s.heap.get? a=some o) where
 sub:=fun b hb=>by simp at hb;simp [hb]
 grefl:=fun _=>rfl
 gtrans:=fun _ _ _ h1 h2=>h2.trans h1
 frame:=fun i s h' _ st _ k=>⟨st.1.mv fun o e=>k I (by simp) o e,k a (by simp) _ st.2⟩
 item:=fun i s Q E hi st hQ=>by
  have hz:(pickOrder (w.params.setOrder a ep) es).size=es.size:=by rw [←Array.length_toList,(Fh _ es).length_eq,Array.length_toList]
  have e:(pickOrder (w.params.setOrder a ep) es)[i]? =some (pickOrder (w.params.setOrder a ep) es)[i]:=Array.getElem?_eq_getElem (by omega)
  refine Lr (slot:=0) (nx:=0) st.1 st.2 S (fun Q' E' h=>Wm st.2 S hb (by rw [e];exact h)) fun g hg sb=>hQ _ _ ?_ ⟨hg,sb.extBut a _ ne st.2⟩ (Fp sb.extBut)
  rw [List.getElem?_map,Array.getElem?_toList,e]
  rfl
 done:=fun s Q E st hQ=>by
  have hz:(pickOrder (w.params.setOrder a ep) es).size=es.size:=by rw [←Array.length_toList,(Fh _ es).length_eq,Array.length_toList]
  have e:(pickOrder (w.params.setOrder a ep) es)[es.size]? =none:=Array.getElem?_eq_none (by omega)
  exact O7 hh st.1 st.2 S (fun Q' E' h=>Wm st.2 S hb (by rw [e];exact h)) fun g sb=>hQ _ (Fp sb)
 self:=fun i s Q E st hQ=>Ng st.1 hQ
theorem Aei {I a T:Addr}{o oT:Obj}{ss:List Str}{es:Array (Int×Value)}{ep nT:Nat}{t:SetTable}(S:F0 prog w o ss es ep t)(ps:List Nat)(hp:∀p∈ps,p<es.size)(hl:ps.length=es.size)(dT:oT.data=.seq (ps.map fun (p:Nat)=>rawInt p).toArray nT)(ne:a≠I)(neT:T≠I){B:Around}(hh:B.handled=none) :
  WalksS prog w B I [I,a,T] [I] (fun a b=>b=a) es.size (fun i v=>(ps.map fun p=>((es[p]?).map (·.2)).getD .none)[i]? =some v) (fun i s=>SI s.heap I (.ref T) i a es.size ep∧s.heap.get? a=some o∧s.heap.get? T=some oT) where
 sub:=fun b hb=>by simp at hb;simp [hb]
 grefl:=fun _=>rfl
 gtrans:=fun _ _ _ h1 h2=>h2.trans h1
 frame:=fun i s h' _ st _ k=>⟨st.1.mv fun o e=>k I (by simp) o e,k a (by simp) _ st.2.1,k T (by simp) _ st.2.2⟩
 item:=fun i s Q E hi st hQ=>by
  have hi':i<ps.length:=by omega
  have h1:((ps.map fun (p:Nat)=>rawInt p).toArray)[i]? =some (.int (ps[i]:Nat) 0):=by
   rw [List.getElem?_toArray,List.getElem?_map,List.getElem?_eq_getElem hi']
   rfl
  have h2:=hp ps[i] (List.getElem_mem hi')
  have h3:es[ps[i]]? =some es[ps[i]]:=Array.getElem?_eq_getElem h2
  refine Ux st.1 st.2.1 S st.2.2 dT h1 h3 fun g hg sb=>hQ _ _ ?_ ⟨hg,sb.extBut a _ ne st.2.1,sb.extBut T _ neT st.2.2⟩ (Fp sb.extBut)
  rw [List.getElem?_map,List.getElem?_eq_getElem hi']
  simp [h3]
 done:=fun s Q E st hQ=>by
  have h1:((ps.map fun (p:Nat)=>rawInt p).toArray)[es.size]? =none:=by
   rw [List.getElem?_toArray,List.getElem?_map,List.getElem?_eq_none (by omega)]
   rfl
  exact Yx hh st.1 st.2.1 S st.2.2 dT h1 fun g sb=>hQ _ (Fp sb)
 self:=fun i s Q E st hQ=>Ng st.1 hQ
theorem Abx {I a:Addr}{o:Obj}{ss:List Str}{es:Array (Int×Value)}{ep:Nat}{t:SetTable}(S:F0 prog w o ss es ep t)(hb:Jo w=false)(hz:es.size≤1)(ne:a≠I){B:Around}(hh:B.handled=none) :
  WalksS prog w B I [I,a] [I] (fun a b=>b=a) es.size (fun i v=>(es.toList.map (·.2))[i]? =some v) (fun i s=>(∃slot:Nat,SI s.heap I (.int slot 0) i a es.size ep∧(i=0→slot=0)∧(i=1→∀p,t.place=#[p]→slot=p+1))∧s.heap.get? a=some o) where
 sub:=fun b hb=>by simp at hb;simp [hb]
 grefl:=fun _=>rfl
 gtrans:=fun _ _ _ h1 h2=>h2.trans h1
 frame:=fun i s h' _ st _ k=>by
  obtain ⟨⟨slot,st,r⟩,st2⟩:=st
  exact ⟨⟨slot,st.mv fun o e=>k I (by simp) o e,r⟩,k a (by simp) _ st2⟩
 item:=fun i s Q E hi st hQ=>by
  obtain ⟨⟨slot,st,r,_⟩,st2⟩:=st
  have i0:i=0:=by omega
  have z1:es.size=1:=by omega
  subst i0
  have hs:=r rfl
  subst hs
  obtain ⟨e,he⟩:∃e,es=#[e]:=Array.size_eq_one_iff.mp z1
  have pz:t.place.size=1:=by
   have:=S.fit
   simp only [SetTable.fits,Bool.and_eq_true,beq_iff_eq] at this
   rw [this.1,z1]
  obtain ⟨p,hp⟩:∃p,t.place=#[p]:=Array.size_eq_one_iff.mp pz
  refine Lr (slot:=0) (nx:=p+1) (x:=e.2) st st2 S (fun Q' E' h=>Ss st2 S hb hz ?_) fun g hg sb=>hQ _ _ ?_ ⟨⟨p+1,hg,fun z=>absurd z (by decide),fun _ p' hp'=>?_⟩,sb.extBut a _ ne st2⟩ (Fp sb.extBut)
  ·rw [hp,Agx,he]
   exact h
  ·rw [he]
   rfl
  ·rw [hp] at hp'
   cases hp'
   rfl
 done:=fun s Q E st hQ=>by
  obtain ⟨⟨slot,st,r0,r1⟩,st2⟩:=st
  refine O7 hh st st2 S (fun Q' E' h=>Ss st2 S hb hz ?_) fun g sb=>hQ _ (Fp sb)
  have:es.size=0∨es.size=1:=by omega
  rcases this with z|z
  ·have e0:es[SetTable.below t.place slot]? =none:=Array.getElem?_eq_none (by omega)
   rw [e0]
   exact h
  ·have pz:t.place.size=1:=by
    have:=S.fit
    simp only [SetTable.fits,Bool.and_eq_true,beq_iff_eq] at this
    rw [this.1,z]
   obtain ⟨p,hp⟩:∃p,t.place=#[p]:=Array.size_eq_one_iff.mp pz
   have hs:=r1 z p hp
   subst hs
   have e0:es[SetTable.below t.place (p+1)]? =none:=by
    rw [hp,Af2]
    exact Array.getElem?_eq_none (by omega)
   rw [e0]
   exact h
 self:=fun i s Q E st hQ=>by
  obtain ⟨⟨slot,st,_⟩,_⟩:=st
  exact Ng st hQ
theorem Pz {o:Obj}{ss:List Str}{es:Array (Int×Value)}{ep:Nat}{t:SetTable}(S:F0 prog w o ss es ep t){e:Int×Value}(h:e∈es.toList):∃x tk,e.2=.str x tk:=by
 obtain ⟨⟨k,hk,_⟩,_⟩:=S.el e h
 obtain ⟨tk,z⟩:=Value.isStrOf_shape hk
 exact ⟨k,tk,z⟩
theorem Aiz {a:Addr}{o:Obj}{ss:List Str}{es:Array (Int×Value)}{ep:Nat}{t:SetTable}{Q:Value→Shared→Prop}(ho:s.heap.get? a=some o)(S:F0 prog w o ss es ep t)
  (q:∀(I:Addr) (g:Heap) (d:Drawn) (xs:List Value) (fp:List Addr) (St:Nat→Shared→Prop),(∀b o,s.heap.get? b=some o→g.get? b=some o)→s.heap.objs.size≤I→I∈fp→(∀b∈fp,b=a∨s.heap.objs.size≤b∧b<g.objs.size)→(xs.map strOf).Perm ss →
   (∀v∈xs,∃x tk,v=.str x tk)→xs.length=es.size→(∀B:Around,B.handled=none→WalksS prog w B I fp [I] (fun a b=>b=a) es.size (fun i v=>xs[i]? =some v) St)→St 0 { s with heap:=g,drawn:=d }→Q (.ref I) { s with heap:=g,drawn:=d }) :
  wpAny (model prog w) A (pyIter (.ref a)) Q E s:=by
 have ty:s.TypeIs (.ref a) "set":=⟨o,ho,S.ex.1⟩
 have la:a<s.heap.objs.size:=Heap.lt_size ho
 refine wpAny_pyIter_slot ty PySem.F.slot_set_iter (wpAny_call_entry PySem.F.slot_set_iter ty Sb ?_ (PySem.F.args_set_iter_1 _))
 unfold Builtin.«frozenset.__iter__» Builtin.Frozenset.slot0
 refine wpAny_bind (wpAny_bind (m:=slotArgs "__iter__" 0 _) (wpAny_pure (wpAny_pure ?_)))
 unfold Builtin.Frozenset.sizeOf
 refine wpAny_bind (wpAny_bind (wpAny_setEntries_of ho S.dat S.fit (wpAny_pure ?_)))
 unfold setDrawn
 refine wpAny_bind (wpAny_bind (wpAny_setState_of ho S.dat S.fit ?_))
 dsimp only
 unfold setsByText
 refine wpAny_bind (wpAny_bind (wpAny_askSetting (wpAny_pure ?_)))
 dsimp only
 refine wpAny_pure ?_
 split
 ·rename_i hc
  have hc':(!Jo w&&(!t.plain&&decide (es.size>1)))=true:=hc
  have hb:Jo w=false:=by
   cases h:Jo w with
   |false=>rfl
   |true=>rw [h] at hc';simp at hc'
  have h1:1<es.size:=by
   have:decide (es.size>1)=true:=by
    cases h:decide (es.size>1) with
    |true=>rfl
    |false=>rw [h] at hc';simp at hc'
   exact of_decide_eq_true this
  refine wpAny_bind (Ol es.size _ s (by simp) fun ps d hp=>?_)
  have hl:ps.length=es.size:=by rw [hp.length_eq,List.length_range]
  have hlt:∀p∈ps,p<es.size:=fun p h=>List.mem_range.mp (hp.mem_iff.mp h)
  have hs:es.size≤sizeLine:=fits_of_scanBound S.bd
  refine wpAny_bind (wpAny_newTuple ?_ (by rw [List.length_map,hl];exact hs))
  have ho1:(s.heap.push { cls:=.type "tuple",data:=.seq (ps.map fun (p:Nat)=>rawInt p).toArray }).get? a=some o:=Heap.get?_push_of_some _ ho
  refine wpAny_bind (wpAny_setEpoch_of (s:={ s with heap:=_,drawn:=d }) ho1 S.dat S.fit ?_)
  refine wpAny_bind (wpAny_newObj_type ?_ (by size_fits))
  have hT:(s.heap.push { cls:=.type "tuple",data:=.seq (ps.map fun (p:Nat)=>rawInt p).toArray }).get? s.heap.objs.size=some _:=Heap.get?_push_size _ rfl
  have e1:(s.heap.push { cls:=.type "tuple",data:=.seq (ps.map fun (p:Nat)=>rawInt p).toArray }).objs.size=s.heap.objs.size+1:=Heap.size_push ..
  refine wpAny_pure ⟨_,rfl,"set_iterator",_,⟨_,Heap.get?_push_size _ rfl,rfl⟩,Bi.lookup,?_⟩
  have neA:a≠(s.heap.push { cls:=.type "tuple",data:=.seq (ps.map fun (p:Nat)=>rawInt p).toArray }).objs.size:=by rw [e1];exact Nat.ne_of_lt (Nat.lt_succ_of_lt la)
  have neT:s.heap.objs.size≠(s.heap.push { cls:=.type "tuple",data:=.seq (ps.map fun (p:Nat)=>rawInt p).toArray }).objs.size:=by rw [e1];exact Nat.ne_of_lt (Nat.lt_succ_self _)
  refine q _ _ d (ps.map fun p=>((es[p]?).map (·.2)).getD .none) [_,a,s.heap.objs.size] _ (fun b o e=>Heap.get?_push_of_some _ (Heap.get?_push_of_some _ e)) (by simp only [e1];omega) List.mem_cons_self ?_ ?_ ?_ (by rw [List.length_map,hl]) (fun B hh=>Aei S ps hlt hl rfl neA neT hh) ⟨⟨_,Heap.get?_push_size _ rfl,rfl,rfl⟩,Heap.get?_push_of_some _ ho1,Heap.get?_push_of_some _ hT⟩
  ·intro b hb
   simp only [List.mem_cons,List.not_mem_nil,or_false] at hb
   rcases hb with rfl|rfl|rfl
   ·exact .inr ⟨by rw [e1];exact Nat.le_succ _,by simp only [Heap.size_push];exact Nat.lt_succ_self _⟩
   ·exact .inl rfl
   ·exact .inr ⟨Nat.le_refl _,by rw [Heap.size_push,e1];exact Nat.lt_succ_of_lt (Nat.lt_succ_self _)⟩
  ·have r:((List.range es.size).map fun p=>((es[p]?).map (·.2)).getD .none)=es.toList.map (·.2):=by
    apply List.ext_getElem?
    intro i
    simp only [List.getElem?_map]
    by_cases hi:i<es.size
    ·simp [hi]
    ·simp [hi]
   have:=((hp.map fun p=>((es[p]?).map (·.2)).getD .none).map strOf)
   rw [r] at this
   exact this.trans (by rw [List.map_map];exact S.pm)
  ·intro v hv
   obtain ⟨p,h,rfl⟩:=List.mem_map.mp hv
   have hp':=hlt p h
   obtain ⟨x,tk,z⟩:=Pz S (e:=es[p]) (by simp)
   exact ⟨x,tk,by simp [hp',z]⟩
 ·rename_i hc
  have hc':¬(!Jo w&&(!t.plain&&decide (es.size>1)))=true:=hc
  refine wpAny_bind (wpAny_pure (wpAny_bind (wpAny_setEpoch_of ho S.dat S.fit ?_)))
  refine wpAny_bind (wpAny_newObj_type ?_ (by size_fits))
  refine wpAny_pure ⟨_,rfl,"set_iterator",_,⟨_,Heap.get?_push_size _ rfl,rfl⟩,Bi.lookup,?_⟩
  have keep:∀{ob:Obj} (b:Addr) (o:Obj),s.heap.get? b=some o→(s.heap.push ob).get? b=some o:=fun b o e=>Heap.get?_push_of_some _ e
  have fpk:∀{ob:Obj} (b:Addr),b∈[s.heap.objs.size,a]→b=a∨s.heap.objs.size≤b∧b<(s.heap.push ob).objs.size:=fun b hb=>by
   simp only [List.mem_cons,List.not_mem_nil,or_false] at hb
   rcases hb with rfl|rfl
   ·exact .inr ⟨Nat.le_refl _,by rw [Heap.size_push];exact Nat.lt_succ_self _⟩
   ·exact .inl rfl
  cases hb:Jo w with
  | true=>
   refine q _ _ s.drawn ((pickOrder (w.params.setOrder a ep) es).toList.map (·.2)) [_,a] _ keep (Nat.le_refl _) List.mem_cons_self fpk ?_ ?_ ?_ (fun B hh=>Ac6 S hb (Nat.ne_of_lt la) hh) ⟨⟨_,Heap.get?_push_size _ rfl,rfl,rfl⟩,Heap.get?_push_of_some _ ho⟩
   ·rw [List.map_map]
    exact ((Fh _ es).map tx).trans S.pm
   ·intro v hv
    obtain ⟨e,h,rfl⟩:=List.mem_map.mp hv
    exact Pz S ((Fh _ es).mem_iff.mp h)
   ·rw [List.length_map,(Fh _ es).length_eq,Array.length_toList]
  | false=>
   have hz:es.size≤1:=by
    refine Nat.le_of_not_lt fun h=>hc' ?_
    rw [hb,S.pl (by omega)]
    simpa using h
   refine q _ _ s.drawn (es.toList.map (·.2)) [_,a] _ keep (Nat.le_refl _) List.mem_cons_self fpk ?_ ?_ (by simp) (fun B hh=>Abx S hb hz (Nat.ne_of_lt la) hh) ⟨⟨0,⟨_,Heap.get?_push_size _ rfl,rfl,rfl⟩,fun _=>rfl,fun h=>absurd h (by decide)⟩,Heap.get?_push_of_some _ ho⟩
   ·rw [List.map_map]
    exact S.pm
   ·intro v hv
    obtain ⟨e,h,rfl⟩:=List.mem_map.mp hv
    exact Pz S h
theorem Aa7 {a:Addr}{o:Obj}{ss:List Str}{es:Array (Int×Value)}{ep:Nat}{t:SetTable}{Q:List Value→Shared→Prop}(hh:A.handled=none)(ho:s.heap.get? a=some o)(S:F0 prog w o ss es ep t)
  (q:∀xs g d tk,(∀b o,s.heap.get? b=some o→g.get? b=some o)→s.heap.objs.size<g.objs.size→(xs.map strOf).Perm ss→(∀v∈xs,∃x tk,v=.str x tk)→Q xs { s with heap:=g,drawn:=d,toks:=tk }):wpAny (model prog w) A (collect (.ref a)) Q E s:=by
 have la:a<s.heap.objs.size:=Heap.lt_size ho
 have hs:es.size≤sizeLine:=fits_of_scanBound S.bd
 unfold collect
 refine wpAny_bind (wpAny_runValue (codeAny_builtin PySem.F.entry_proto_collect ?_))
 rw [Around.under_plainId PySem.F.plain_proto_collect _]
 show wpAny _ A.in1 (newList [] >>= fun l=>again (.builtin "list.__iadd__" ⟨[l,.ref a],[]⟩)) _ _ s
 refine wpAny_bind (wpAny_newObj_type (wpAny_pure ⟨plainId_quiet PySem.F.plain_list_iadd _,codeAny_builtin PySem.F.entry_list_iadd ?_⟩))
 rw [Around.under_plainId PySem.F.plain_list_iadd _]
 show wpAny _ A.in1 (Builtin.List.listExtendWith (.ref s.heap.objs.size) (.ref a) (.ref s.heap.objs.size)) _ _ _
 generalize hob:({ cls:=.type "list",data:=.seq ([]:List Value).toArray }:Obj)=ob
 have hL:(s.heap.push ob).get? s.heap.objs.size=some ob:=Heap.get?_push_size _ (by rw [←hob];rfl)
 have ho1:(s.heap.push ob).get? a=some o:=Heap.get?_push_of_some _ ho
 have sz1:(s.heap.push ob).objs.size=s.heap.objs.size+1:=Heap.size_push ..
 unfold Builtin.List.listExtendWith
 refine wpAny_bind (wpAny_typeOf (T:="set") ⟨o,ho1,S.ex.1⟩ ?_)
 have h1:Builtin.List.listSameRef (.ref s.heap.objs.size) (.ref a)=false:=by simp [Builtin.List.listSameRef,Nat.ne_of_gt la]
 have h2:(Value.type "set"==Value.type "list")=false:=by decide
 have h3:(Value.type "set"==Value.type "tuple")=false:=by decide
 simp only [h1,h2,h3,Bool.or_false,Bool.false_eq_true,if_false]
 refine wpAny_bind (Aiz (s:={ s with heap:=s.heap.push ob }) ho1 S fun I g d xs fp St keep lI mI hfp pm hst len W st=>?_)
 refine wpAny_bind (wpAny_holding ?_)
 unfold Builtin.List.listLengthHint
 have ty:Shared.TypeIs { s with heap:=g,drawn:=d } (.ref a) "set":=⟨o,keep _ _ ho1,S.ex.1⟩
 refine wpAny_bind (wpAny_specialOf ty PySem.F.slot_set_len.lookup ?_)
 dsimp only
 rw [show splitId "set.__len__"=some ("set","__len__") by kernel_rfl]
 dsimp only
 refine wpAny_bind (wpAny_isInstance ty sub_set_self ?_)
 simp only [Bool.not_true,Bool.false_eq_true,if_false]
 refine wpAny_ite ?_
 rw [if_pos (by decide +kernel)]
 refine wpAny_bind (wpAny_typeOf ty ?_)
 refine wpAny_pure ?_
 refine wpAny_ite ?_
 rw [if_pos (by decide +kernel)]
 refine wpAny_bind (wpAny_rule (wpAny_bind ?_))
 have hLg:g.get? s.heap.objs.size=some ob:=keep _ _ hL
 rw [←hob] at hLg
 show wpAny _ A.in1 (updateSeq s.heap.objs.size (·.push .none) >>= fun _=>updateSeq s.heap.objs.size (·.pop)) _ _ _
 refine wpAny_bind (wpAny_updateSeq hLg rfl ?_)
 have u1:=Heap.get?_update_self (Obj.mapSeq (·.push Value.none)) hLg rfl
 refine wpAny_updateSeq u1 rfl ?_
 have u2:=Heap.get?_update_self (Obj.mapSeq (·.pop)) u1 rfl
 have oth:∀b o,b≠s.heap.objs.size→g.get? b=some o→((g.update s.heap.objs.size (Obj.mapSeq (·.push Value.none))).update s.heap.objs.size (Obj.mapSeq (·.pop))).get? b=some o:=
  fun b o nb e=>(Heap.get?_update_other _ _ (Ne.symm nb)).trans ((Heap.get?_update_other _ _ (Ne.symm nb)).trans e)
 have nf:s.heap.objs.size∉fp:=fun h=>by
  rcases hfp _ h with z|⟨z,_⟩
  ·exact absurd z (Nat.ne_of_gt la)
  ·have z':(s.heap.push ob).objs.size≤s.heap.objs.size:=z
   rw [sz1] at z'
   exact absurd z' (Nat.not_succ_le_self _)
 have W':=W A.in1 (by simp [hh])
 refine wpAny_pure ⟨plainId_quiet PySem.F.plain_extend_loop _,codeAny_extend_loopS W' hs _ nf _ es.size 0 _ _ _ rfl (Nat.zero_le _) (W'.frame 0 ({ s with heap:=g,drawn:=d }:Shared) _ s.toks st (Nat.le_refl _) fun b hb o e=>oth b o (fun h=>nf (h▸hb)) e) u2 (ItemsOf.nil _) fun s' acc c m hS' it=>?_⟩
 show wpAny _ A (load s.heap.objs.size >>= _) _ _ s'
 refine wpAny_bind (wpAny_load hS' (wpAny_pure ?_))
 have ex:acc.toList=xs:=by
  obtain ⟨z,h⟩:=it
  apply List.ext_getElem?
  intro j
  rw [Array.getElem?_toList]
  cases e:acc[j]? with
  |some v=>exact (h j v e).symm
  | none=>
   have:es.size≤j:=by
    have:=Array.getElem?_eq_none_iff.mp e
    omega
   exact (List.getElem?_eq_none (by omega)).symm
 rw [ex]
 obtain ⟨g',gn,dr,tk,os⟩:=s'
 obtain ⟨m1,m2,m3,m4,m5⟩:=m
 dsimp only at m1 m2 m3 m4 m5
 subst m2 m3 m4
 refine q xs g' _ tk (fun b o e=>m1 b o (fun h=>?_) (oth b o ?_ (keep _ _ (Heap.get?_push_of_some _ e)))) (Heap.lt_size hS') pm hst
 ·rcases List.mem_cons.mp h with z|z
  ·subst z
   exact absurd (Heap.lt_size e) (Nat.lt_irrefl _)
  ·rw [List.mem_singleton] at z
   subst z
   have z':(s.heap.push ob).objs.size≤b:=lI
   rw [sz1] at z'
   exact absurd (Heap.lt_size e) (Nat.not_lt_of_le (Nat.le_of_succ_le z'))
 ·exact Nat.ne_of_lt (Heap.lt_size e)
theorem Ox:∀{l:List Str} {p:Str},risingS p l=true→(∀y∈l,¬lS y p)∧l.Pairwise fun a b=>¬lS b a
 |[],_,_=>⟨fun _ h=>absurd h (by simp),List.Pairwise.nil⟩
 | x::r,p,h=>by
  have h':(!ltCps x.cps.toList p.cps.toList&&risingS x r)=true:=h
  rw [Bool.and_eq_true,Bool.not_eq_true',ltCps_eq] at h'
  obtain ⟨h1,h2⟩:=h'
  have n1:¬lS x p:=of_decide_eq_false h1
  obtain ⟨i1,i2⟩:=Ox h2
  refine ⟨fun y hy=>?_,List.pairwise_cons.mpr ⟨i1,i2⟩⟩
  rcases List.mem_cons.mp hy with rfl|hy
  ·exact n1
  ·intro c
   exact i1 y hy (Decidable.byContradiction fun d=>n1 (Decidable.byContradiction fun n1'=>by
    by_cases e:lS p x
    ·exact d (W3 c e)
    ·have e2:=Q3 n1' e
     subst e2
     exact d c))
theorem O2 {l:List Str}(h:sortedS l=true):l.Pairwise fun a b=>¬lS b a:=by
 cases l with
 |nil=>exact List.Pairwise.nil
 |cons x r=>
  obtain ⟨h1,h2⟩:=Ox (p:=x) (l:=r) h
  exact List.pairwise_cons.mpr ⟨h1,h2⟩
theorem Uy {a:Addr}{o:Obj}{ss:List Str}{es:Array (Int×Value)}{ep:Nat}{t:SetTable}{Q:Value→Shared→Prop}(hh:A.handled=none)(ho:s.heap.get? a=some o)(S:F0 prog w o ss es ep t)(h64:es.size<64)
  (q:∀(r:Addr) (us:List Value) (ys:List Str) (n:Nat) g d tk,s.heap.objs.size≤r→g.get? r=some (seqObj "list" us.toArray n)→(∀b o,s.heap.get? b=some o→g.get? b=some o)→StrsAre us ys→ys.Perm ss→(ys.Pairwise fun a b=>¬lS b a) →
   Q (.ref r) { s with heap:=g,drawn:=d,toks:=tk }):wpAny (model prog w) A (call (.builtin "sorted") [.ref a]) Q E s:=by
 refine Calls.call_function_entry kind_sorted plain_sorted entry_sorted (args_sorted1 _) ?_
 unfold Builtin.«sorted»
 refine wpAny_bind (m:=checkCount "sorted" 1 1 _) (wpAny_pure (wpAny_bind (Aa7 (by simp [hh]) ho S fun xs g d tk keep lg pm hst=>?_)))
 have hl:xs.length=es.size:=by
  have:=pm.length_eq
  rw [List.length_map] at this
  rw [this,S.size]
 refine wpAny_bind (wpAny_newList ?_ (by rw [hl];exact fits_of_scanBound S.bd))
 have sa:StrsAre xs (xs.map strOf):=strsAre_map xs hst
 have hoL:(g.push (seqObj "list" xs.toArray 0)).get? g.objs.size=some (seqObj "list" xs.toArray 0):=Heap.get?_push_size _ rfl
 refine wpAny_bind (wpAny_holding (wpAny_call_entry slot_list_sort ⟨_,hoL,rfl⟩ entry_list_sort (list_sort_treeK strKind_oneLt hoL sa.keysOf (fun v1 v2 r e=>keyKind_strs (by rw [←e];exact sa)) (by omega) fun st' a1 a2=>⟨_,rfl,wpAny_pure ⟨_,rfl,?_⟩⟩) (args_list_sort _)))
 obtain ⟨ys,b1,b2,b3⟩:=sorted_out_str sa a1 a2
 obtain ⟨n,hn⟩:=sortedHeap_at (out:=(arrOf st').map (·.2)) hoL
 refine q g.objs.size ((arrOf st').map (·.2)).toList ys n _ d tk (Nat.le_of_lt lg) (by rw [hn]) (fun b ob e=>?_) b1 (b2.trans pm) (O2 b3)
 have hb:=Heap.lt_size (keep b ob e)
 show (sortedHeap _ _ _ _).get? b=some ob
 rw [sortedHeap_old (Nat.ne_of_lt hb) (by rw [Heap.size_push];exact Nat.lt_succ_of_lt hb)]
 exact Heap.get?_push_of_some _ (keep b ob e)
end
section
variable {X:Cx}
theorem Nh:∀{us:List Value} {ys:List Str},StrsAre us ys→A4 (ys.map V.str) us
 |_,_,.nil=>.nil
 |_,_,.cons x t r=>.cons ⟨t,rfl⟩ (Nh r)
theorem Kv:bootBuiltins "sorted"=some (.builtin "sorted"):=by decide +kernel
theorem Z3:bootBuiltins "set"=some (.type "set"):=by decide +kernel
def Akm (K:PySem.W.Frag)(te:TE):TE:=fun σ H Q=>te σ H fun x H1=>match x with
 |.ref l=>∃names:List Str,Ay K H1 l (names.map V.str)∧names.length≤1000∧(Oh names).length<64∧∀D,H1 D=none→Q (.ref D) (upd H1 D (.lst ((Oh names).map V.str)))
 |_=>False
theorem Zm {e:Expr}{te:TE}{p p' pos pos':Pos}(hg1:Gl X "sorted")(hm1:X.mg "sorted"=none)(hg2:Gl X "set")(hm2:X.mg "set"=none)(he:PE X e te)(hc:X.calm=true:=by rfl)
  (hs:starEach [.Call (.Name "set" p') [e] [] pos'] X.env=[(false,eval (.Call (.Name "set" p') [e] [] pos') X.env)]:=by rfl) (hs2:starEach [e] X.env=[(false,eval e X.env)]:=by rfl) :
  PE X (.Call (.Name "sorted" p) [.Call (.Name "set" p') [e] [] pos'] [] pos) (Akm X.K te):=by
 intro pins s σ H Q I h
 refine wpAny_Call_Name_kw (E6 I hg1 hm1 Kv ?_)
 refine PyProof.Rows.callWith_builtin1 ?_ hs rfl
 rw [hs]
 show wpAny _ _ (spliced ((false,eval (.Call (.Name "set" p') [e] [] pos') X.env)::backTo pos (starEach [] X.env))) _ _ s
 refine Calls.spliced_cons ?_
 refine wpAny_Call_Name_kw (E6 I hg2 hm2 Z3 ?_)
 refine PyProof.Rows.callWith_type1 ?_ hs2 rfl
 rw [hs2]
 show wpAny _ _ (spliced ((false,eval e X.env)::backTo pos' (starEach [] X.env))) _ _ s
 refine Calls.spliced_cons (thn (he pins s σ H _ I h) fun u s1 ⟨x,H1,I1,r1,q1⟩=>Calls.spliced_nil ?_)
 match x,q1 with
 |.ref l,⟨names,hq,hn,h64,q⟩=>
  cases (show u=Value.ref l from r1)
  obtain ⟨its,rv,⟨oL,nL,eL,cL,dL,xL⟩,hz⟩:=I1.list hq
  have sa:StrsAre its names:=Py rv
  have hl:its.length=names.length:=by rw [←rv.length,List.length_map]
  have hh:X.A.handled=none:=I1.ok.hd hc
  refine Xo hh ⟨oL,eL,cL,nL,xL⟩ sa (by rw [hl];exact Nat.lt_of_le_of_lt (Nat.succ_le_succ hn) (by decide)) fun g tk hS keep=>Calls.spliced_nil ?_
  obtain ⟨o,es,ep,t,ho,S⟩:=hS
  rw [hl] at S
  refine Uy hh ho S (by rw [S.size];exact Nat.lt_of_le_of_lt (Ad7 names) h64) fun r us ys n g2 d tk2 lr hr keep2 sa2 pm pw=>?_
  have ey:ys=Oh names:=Hb (Jq pw (pm.nodup_iff.mpr (Jx _ _))) (Cn _) fun x=>by rw [pm.mem_iff,Xf,Ev]
  subst ey
  have fr:s1.heap.objs.size≤r:=Nat.le_trans (Nat.le_of_lt (Heap.lt_size ho)) lr
  have I2:=I1.laid (t':=tk2) (h':=g2) (a:=r) (o:=.lst ((Oh names).map V.str)) (fun b u e=>keep2 _ _ (keep _ _ e)) fr ⟨by rw [List.length_map];exact Nat.le_trans (Nat.le_of_lt h64) (by decide),us,n,Nh sa2,hr⟩
  exact ⟨.ref r,_,⟨I2.ok,I2.os,I2.bare,I2.base,I2.loc,I2.cell,I2.free,I2.freeC,I2.pin,I2.hok,I2.len⟩,rfl,q r (I1.hok.fresh fr)⟩
end
end Lw
end
section
namespace Lw
open PySem PySem.Spec PyProof.Rows L2
inductive At {α β:Type}(R:α→β→Prop):List α→List β→Prop where
 |nil:At R [] []
 |cons {a:α} {b:β} {l:List α} {m:List β}:R a b→At R l m→At R (a::l) (b::m)
theorem At.len {α β:Type}{R:α→β→Prop}:∀{l:List α} {m:List β},At R l m→l.length=m.length
 |_,_,.nil=>rfl
 |_,_,.cons _ r=>by rw [List.length_cons,List.length_cons,r.len]
theorem At.imp {α β:Type}{R S:α→β→Prop}(h:∀a b,R a b→S a b):∀{l:List α} {m:List β},At R l m→At S l m
 |_,_,.nil=>.nil
 |_,_,.cons x r=>.cons (h _ _ x) (r.imp h)
theorem At.snoc {α β:Type}{R:α→β→Prop}{a:α}{b:β}(x:R a b):∀{l:List α} {m:List β},At R l m→At R (l++[a]) (m++[b])
 |_,_,.nil=>.cons x .nil
 |_,_,.cons y r=>.cons y (r.snoc x)
theorem At.get {α β:Type}{R:α→β→Prop}:∀{l:List α} {m:List β},At R l m→∀{i:Nat} {a:α},l[i]? =some a→∃b,m[i]? =some b∧R a b
 |_,_,.nil,i,a,h=>by simp at h
 |_,_,.cons x r,0,a,h=>by
  simp at h
  subst h
  exact ⟨_,rfl,x⟩
 |_,_,.cons x r,i+1,a,h=>by
  simp only [List.getElem?_cons_succ] at h ⊢
  exact r.get h
def Kt (H H':Hp):Prop:=∀p xs,H p=some (.tup xs)→H' p=some (.tup xs)
theorem Kt.trans {H H1 H2:Hp}(a:Kt H H1)(b:Kt H1 H2):Kt H H2:=fun p xs h=>b p xs (a p xs h)
theorem A7 {H H':Hp}(s:Ah H H'):Kt H H':=fun p xs h=>s p _ h
theorem Go {H:Hp}{D:Addr}{zs:List V}{o:HO}(h:H D=some (.lst zs)):Kt H (upd H D o):=fun p xs e=>by
 have ne:p≠D:=fun z=>by
  subst z
  rw [h] at e
  cases e
 rw [Ak ne]
 exact e
theorem Cb {H0 H:Hp}{D:Addr}{o:HO}(s:Ah H0 H)(h:H0 D=none):Ah H0 (upd H D o):=fun b u e=>by
 rw [Ak (Bh e h)]
 exact s b u e
theorem Jd {β:Type}{K:PySem.W.Frag}{a:Addr}{xs:List V}{ms:List β}{g:TG}{te:TE}{k:Nat}{js:List Nat}{σ:L2.St}{H1:Hp}{Q:VK}(M:Hp→V→β→Prop)(upM:∀v m H H',Kt H H'→M H v m→M H' v m)(R:Hp→β→V→Prop)(up:∀m y H H',Kt H H'→R H m y→R H' m y)
  (hz:xs.length≤1000) (hx:Ay K H1 a xs) (hm:At (M H1) xs ms)
  (hs:∀v m H2,M H2 v m→m∈ms→Ah H1 H2→∀P:VK,(∀y H3,Ah H2 H3→R H3 m y→P y H3)→g v (List.replicate k none++capσ js σ) H2 fun σ2 H3=>σ2.drop k=capσ js σ∧te σ2 H3 P)
  (hq:∀D H' ys,Ah H1 H'→H1 D=none→H' D=some (.lst ys)→At (R H') ms ys→Q (.ref D) H'):Ez (Itl K a) g te k js σ H1 Q:=by
 unfold Ez
 intro D hD
 have hl:=hm.len
 refine ⟨fun i m H=>m=xs.length-i∧i≤xs.length∧Ah H1 H∧∃ys,H D=some (.lst ys)∧At (R H) (ms.take i) ys,⟨xs.length,by simp,Nat.zero_le _,Am hD,[],Ad,.nil⟩,?_⟩
 rintro i m H ⟨rfl,hi,sm,ys,hH,ar⟩
 have sq:=sm.seq hx
 by_cases hlt:i<xs.length
 ·have e:xs[i]? =some xs[i]:=by simp [hlt]
  refine .inr ⟨⟨xs,_,sq,e⟩,fun x H' y=>?_⟩
  obtain ⟨e1,e2⟩:=y
  subst e1
  have hv:=e2 xs sq
  obtain ⟨m,hmi,hM⟩:=hm.get hv
  refine hs x m _ (upM _ _ _ _ (A7 sm) hM) (List.mem_of_getElem? hmi) sm _ fun y H3 s3 r3=>⟨ys,s3 _ _ hH,?_,xs.length-(i+1),by omega,rfl,hlt,Cb (sm.trans s3) hD,ys++[y],Ad,?_⟩
  ·rw [←ar.len,List.length_take]
   exact Nat.lt_of_le_of_lt (Nat.min_le_left _ _) (Nat.lt_of_lt_of_le hlt (Nat.le_trans hz (by decide)))
  ·have kt:Kt H3 (upd H3 D (.lst (ys++[y]))):=Go (s3 _ _ hH)
   rw [List.take_add_one,hmi]
   exact (ar.imp fun v y r=>up v y _ _ ((A7 s3).trans kt) r).snoc (up _ _ _ _ kt r3)
 ·have e:i=xs.length:=by omega
  subst e
  rw [hl,List.take_length] at ar
  exact .inl ⟨⟨xs,sq,Nat.le_refl _⟩,hq D _ ys sm hD hH ar⟩
theorem Pf {β:Type}{K:PySem.W.Frag}{a:Addr}{xs:List V}{ms:List β}{g:TG}{tc:TT}{te:TE}{k:Nat}{js:List Nat}{σ:L2.St}{H1:Hp}{Q:VK}(M:Hp→V→β→Prop)(upM:∀v m H H',Kt H H'→M H v m→M H' v m)(R:Hp→β→V→Prop)(up:∀m y H H',Kt H H'→R H m y→R H' m y)
  (c:β→Bool) (hz:xs.length≤1000) (hx:Ay K H1 a xs) (hm:At (M H1) xs ms)
  (hs:∀v m H2,M H2 v m→m∈ms→Ah H1 H2→∀(P:VK) (P':Hp→Prop),(c m=true→∀y H3,Ah H2 H3→R H3 m y→P y H3)→(c m=false→∀H3,Ah H2 H3→P' H3)→g v (List.replicate k none++capσ js σ) H2 fun σ2 H3=>σ2.drop k=capσ js σ∧tc σ2 H3 fun b H4=>Br b (te σ2 H4 P) (P' H4))
  (hq:∀D H' ys,Ah H1 H'→H1 D=none→H' D=some (.lst ys)→At (R H') (ms.filter c) ys→Q (.ref D) H'):Kh (Itl K a) g tc te k js σ H1 Q:=by
 unfold Kh
 intro D hD
 have hl:=hm.len
 refine ⟨fun i m H=>m=xs.length-i∧i≤xs.length∧Ah H1 H∧∃ys,H D=some (.lst ys)∧At (R H) ((ms.take i).filter c) ys,⟨xs.length,by simp,Nat.zero_le _,Am hD,[],Ad,.nil⟩,?_⟩
 rintro i m H ⟨rfl,hi,sm,ys,hH,ar⟩
 have sq:=sm.seq hx
 by_cases hlt:i<xs.length
 ·have e:xs[i]? =some xs[i]:=by simp [hlt]
  refine .inr ⟨⟨xs,_,sq,e⟩,fun x H' y=>?_⟩
  obtain ⟨e1,e2⟩:=y
  subst e1
  have hv:=e2 xs sq
  obtain ⟨m,hmi,hM⟩:=hm.get hv
  have yl:ys.length<sizeLine:=by
   rw [←ar.len]
   refine Nat.lt_of_le_of_lt (List.length_filter_le _ _) ?_
   rw [List.length_take]
   exact Nat.lt_of_le_of_lt (Nat.min_le_left _ _) (Nat.lt_of_lt_of_le hlt (Nat.le_trans hz (by decide)))
  refine hs x m _ (upM _ _ _ _ (A7 sm) hM) (List.mem_of_getElem? hmi) sm _ _ (fun hc y H3 s3 r3=>⟨ys,s3 _ _ hH,yl,xs.length-(i+1),by omega,rfl,hlt,Cb (sm.trans s3) hD,ys++[y],Ad,?_⟩) fun hc H3 s3=>⟨xs.length-(i+1),by omega,rfl,hlt,sm.trans s3,ys,s3 _ _ hH,?_⟩
  ·have kt:Kt H3 (upd H3 D (.lst (ys++[y]))):=Go (s3 _ _ hH)
   rw [List.take_add_one,hmi,List.filter_append]
   have ef:(Option.toList (some m)).filter c=[m]:=by simp [hc]
   rw [ef]
   exact (ar.imp fun v y r=>up v y _ _ ((A7 s3).trans kt) r).snoc (up _ _ _ _ kt r3)
  ·rw [List.take_add_one,hmi,List.filter_append]
   have ef:(Option.toList (some m)).filter c=[]:=by simp [hc]
   rw [ef,List.append_nil]
   exact ar.imp fun v y r=>up v y _ _ (A7 s3) r
 ·have e:i=xs.length:=by omega
  subst e
  rw [hl,List.take_length] at ar
  exact .inl ⟨⟨xs,sq,Nat.le_refl _⟩,hq D _ ys sm hD hH ar⟩
structure Gm where
 d:Int
 a:Str
 b:Str
 h:Int
 s:Int
def Bw (H:Hp)(v:V)(g:Gm):Prop:=∃p,v=.ref p∧H p=some (.tup [.int g.d,.str g.a,.str g.b,.int g.h,.int g.s])
theorem B6 (v:V)(g:Gm)(H H':Hp)(k:Kt H H')(h:Bw H v g):Bw H' v g:=by
 obtain ⟨p,e,r⟩:=h
 exact ⟨p,e,k _ _ r⟩
def Bk (K:PySem.W.Frag)(H:Hp)(L:Addr)(gs:List Gm):Prop:=∃vs,Ay K H L vs∧At (Bw H) vs gs∧gs.length≤100
def trn (g:Gm):Gm:=⟨g.d,g.b,g.a,2-g.h,-g.s⟩
def plr (gs:List Gm):List Str:=Oh (gs.map (·.a)++gs.map (·.b))
def Al2 (n:Str)(g:Gm):Bool:=n==g.a||n==g.b
def Ai2 (n:Str)(g:Gm):Gm:=if g.a=n then g else trn g
def tld (n:Str)(gs:List Gm):List Gm:=(gs.filter (Al2 n)).map (Ai2 n)
def tkr (n:Str)(gs:List Gm):List Str:=Oh (((tld n gs).filter fun g=>decide (g.h<2)).map (·.b))
theorem Ko {f:Gm→Str}:∀{gs:List Gm} {ys:List V},At (fun g y=>y=V.str (f g)) gs ys→ys=(gs.map f).map V.str
 |_,_,.nil=>rfl
 |_,_,.cons e r=>by rw [e,Ko r];rfl
theorem Ge {gs:List Gm}{x:Str}:x∈plr gs↔∃g∈gs,x=g.a∨x=g.b:=by
 unfold plr
 rw [Ev,List.mem_append,List.mem_map,List.mem_map]
 constructor
 ·rintro (⟨g,h,rfl⟩|⟨g,h,rfl⟩)
  ·exact ⟨g,h,.inl rfl⟩
  ·exact ⟨g,h,.inr rfl⟩
 ·rintro ⟨g,h,rfl|rfl⟩
  ·exact .inl ⟨g,h,rfl⟩
  ·exact .inr ⟨g,h,rfl⟩
section
variable {X:Cx}
end
def gd (g:Gm):PyData:=.tuple [.int g.d,.str g.a,.str g.b,.int g.h,.int g.s]
theorem Abq:∀{gs:List Gm},(∀g∈gs,PyData.strOk g.a=true∧PyData.strOk g.b=true)→PyData.canLayAll0 (gs.map gd)=true
 |[],_=>rfl
 |g::gs,h=>by
  obtain ⟨h1,h2⟩:=h g (List.mem_cons_self ..)
  show ((true&&(PyData.strOk g.a&&(PyData.strOk g.b&&true)))&&PyData.canLayAll0 (gs.map gd))=true
  rw [h1,h2,Abq fun y hy=>h y (List.mem_cons_of_mem _ hy)]
  rfl
theorem Aal:∀(gs:List Gm),PyData.depthAll (gs.map gd)≤1
 |[]=>Nat.zero_le _
 |g::gs=>by
  have e:(gd g).depth=1:=rfl
  show max (gd g).depth (PyData.depthAll (gs.map gd))≤1
  rw [e]
  have:=Aal gs
  omega
theorem Agn {gs:List Gm}(h:∀g∈gs,PyData.strOk g.a=true∧PyData.strOk g.b=true):SeqAt.shaped (.list (gs.map gd))=true:=by
 unfold SeqAt.shaped
 have e:(PyData.list (gs.map gd)).depth=PyData.depthAll (gs.map gd)+1:=rfl
 have:=Aal gs
 rw [show (PyData.list (gs.map gd)).canLay0=true from Abq h,e,Bool.true_and]
 exact decide_eq_true (by omega)
theorem Wo {K:PySem.W.Frag}{H:Hp}:∀{vs:List V} {gs:List Gm},At (Bw H) vs gs→O6 K H vs (gs.map gd)
 |_,_,.nil=>.nil
 |_,_,.cons ⟨p,e,h⟩ r=>by
  subst e
  exact .cons (.tup (E4.of h) (.cons (.int _) (.cons (.str _) (.cons (.str _) (.cons (.int _) (.cons (.int _) .nil)))))) (Wo r)
theorem Ro {K:PySem.W.Frag}{H:Hp}{p:Addr}{vs:List V}{gs:List Gm}(h:Ay K H p vs)(a:At (Bw H) vs gs):Rp K H (.ref p) (.list (gs.map gd)):=.lst h (Wo a)
theorem Fz {d:PyData}(h:SeqAt.shaped d=true):PyData.eqv d d=true:=SeqAt.eqv_refl d (SeqAt.canLay_of_shaped h)
theorem V5 {nm:List Str}{gs:List Gm}(h:∀g∈gs,g.a∈nm∧g.b∈nm){x:Str}(hx:x∈plr gs):x∈nm:=by
 obtain ⟨g,hg,rfl|rfl⟩:=Ge.mp hx
 ·exact (h g hg).1
 ·exact (h g hg).2
theorem Ael {nm:List Str}{gs:List Gm}(h:∀g∈gs,g.a∈nm∧g.b∈nm):(plr gs).length≤nm.length:=Hq (Kg (Cn _)) fun x hx=>V5 h hx
end Lw
end
section
namespace Lw
open PySem PySem.Spec PyProof.Rows L2
section
variable {X:Cx}
end
theorem Ye {lo:Int}{n:Nat}{g:TG}{te:TE}{k:Nat}{js:List Nat}{σ:L2.St}{H1:Hp}{Q:VK}(R:Hp→V→Prop)(up:∀y H H',Kt H H'→R H y→R H' y)(hz:n≤1000)
  (hs:∀i H2,i<n→Ah H1 H2→∀P:VK,(∀y H3,Ah H2 H3→R H3 y→P y H3)→g (.int (lo+i)) (List.replicate k none++capσ js σ) H2 fun σ2 H3=>σ2.drop k=capσ js σ∧te σ2 H3 P)
  (hq:∀D H' ys,Ah H1 H'→H1 D=none→H' D=some (.lst ys)→ys.length=n→(∀y∈ys,R H' y)→Q (.ref D) H'):Ez (Itr lo n) g te k js σ H1 Q:=by
 unfold Ez
 intro D hD
 refine ⟨fun i m H=>m=n-i∧i≤n∧Ah H1 H∧∃ys,H D=some (.lst ys)∧ys.length=i∧∀y∈ys,R H y,⟨n,by simp,Nat.zero_le _,Am hD,[],Ad,rfl,fun _ h=>absurd h (by simp)⟩,?_⟩
 rintro i m H ⟨rfl,hi,sm,ys,hH,hl,ar⟩
 by_cases hlt:i<n
 ·refine .inr ⟨hlt,fun x H' y=>?_⟩
  obtain ⟨e1,e2⟩:=y
  subst e1 e2
  refine hs i _ hlt sm _ fun y H3 s3 r3=>⟨ys,s3 _ _ hH,?_,n-(i+1),by omega,rfl,hlt,Cb (sm.trans s3) hD,ys++[y],Ad,by rw [List.length_append,hl];rfl,fun z hz=>?_⟩
  ·rw [hl]
   exact Nat.lt_of_lt_of_le hlt (Nat.le_trans hz (by decide))
  ·have kt:Kt H3 (upd H3 D (.lst (ys++[y]))):=Go (s3 _ _ hH)
   rcases List.mem_append.mp hz with hz|hz
   ·exact up z _ _ ((A7 s3).trans kt) (ar z hz)
   ·rw [List.mem_singleton] at hz
    subst hz
    exact up _ _ _ kt r3
 ·have e:i=n:=by omega
  subst e
  exact .inl ⟨Nat.le_refl _,hq D _ ys sm hD hH hl ar⟩
theorem At.take {α β:Type}{R:α→β→Prop}:∀{l:List α} {m:List β} (n:Nat),At R l m→At R (l.take n) (m.take n)
 |_,_,0,_=>.nil
 |_,_,n+1,.nil=>.nil
 |_,_,n+1,.cons x r=>.cons x (r.take n)
theorem At.drop {α β:Type}{R:α→β→Prop}:∀{l:List α} {m:List β} (n:Nat),At R l m→At R (l.drop n) (m.drop n)
 |_,_,0,h=>h
 |_,_,n+1,.nil=>.nil
 |_,_,n+1,.cons x r=>r.drop n
end Lw
end
section
namespace Lw
open PySem PySem.Spec PyProof.Rows L2
section
variable {X:Cx}
end
theorem Af4 {fs es:List Expr}{x:Nat}{p:Pos}{env:Env}:starEach (.Tuple fs x p::es) env=(false,eval (.Tuple fs x p) env)::starEach es env:=rfl
theorem Afn {c:Const}{es:List Expr}{x:Nat}{p:Pos}{env:Env}:starEach (.Constant c x p::es) env=(false,eval (.Constant c x p) env)::starEach es env:=rfl
theorem Dc {X:Cx}{c:Const}{es:List Expr}{x1:Nat}{p:Pos}{te:TE}{t:TA}(ha:PE X (.Constant c x1 p) te)(hr:PA X es t):PA X (.Constant c x1 p::es) (Zk te t):=Aa ha hr Afn
structure QA (X:Cx)(es:List Expr)(t:TA):Prop where
 pa:PA X es t
theorem Agd {X:Cx}:QA X [] Aef:=⟨Ac⟩
theorem Qg {X:Cx}{fs es:List Expr}{x1:Nat}{p:Pos}{te:TE}{t:TA}(ha:PE X (.Tuple fs x1 p) te)(hr:QA X es t):QA X (.Tuple fs x1 p::es) (Zk te t):=⟨Aa ha hr.pa Af4⟩
theorem Ah4 {X:Cx}{es:List Expr}{t:TA}{pos:Pos}(h:QA X es t):PE X (.List es pos) (Aj8 t):=Iw h.pa
end Lw
end
section
namespace Lw
open PySem PySem.Spec PyProof.Rows L2
section
variable {X:Cx}
end
end Lw
end
section
namespace Lw
open PySem PySem.Spec PyProof.Rows L2
def Rm (ns:List Int):Prop:=∀n∈ns,Builtin.Int.intBits n≤2 ^ 20
theorem Adp {ns:List Int}(h:PySem.W.WData.layableAll [PySem.W.WData.list (ns.map PySem.W.WData.int)]=true):Rm ns:=fun n hn=>by
 have h1:=PySem.W.layableW_arg h _ (List.mem_singleton.mpr rfl)
 have h2:=PySem.W.layableW_item h1 (.int n) (List.mem_map.mpr ⟨n,hn,rfl⟩)
 have h3:=PySem.W.lay0_int h2
 have h4:PyData.layable0 (.int n)=true:=by
  have:=h3
  simp only [PyData.layableAll0,List.all_cons,List.all_nil,Bool.and_true] at this
  exact this
 exact PyData.bits_of_layable h4
section
variable {X:Cx}
theorem Ahv:Dv X (binaryOp .Mult) (dI IntMulOk fun i j=>.int (i*j)):=opD (opI fun _ _ _ _ _ _ _ hc q=>mul_int q hc)
end
section
variable {P:Program}{w:World}{K:PySem.W.Frag}{mg:Str→Option Value}{base:Heap}
end
open PySem PySem.W PySem.Calls PyProof.Rows in
theorem Q6 {l:OpenLaw}{n:Nat}{q:Program}{loose:List Str}{XP:(Str→Option Value)→Heap→Prop}{YP:World→Heap→Prop}{d:DefRec}(hn:l.most=some n)(nodf:d.params.defaults=[])
  (go:∀(w:World) (t₀ t:Shared) (mg mb:Str→Option Value) (fa:Addr) (o:Obj) (pm cd doc:Value) (a:Addr) (vs:List Value) (ns:List Int),Rm ns→Ground q loose [] XP w t₀ mg mb t.heap→YP w t.heap→t.heap.get? fa=some o→o.data=.func (docDef d.name d.params d.body d.scope pm cd doc)→t.heap.CodeRec cd d.name→mg d.name=some (.ref fa)→t.heap.get? a=some { cls:=.type "list",data:=.seq vs.toArray }→IntsAre vs ns→ns.length≤n→t.gens=#[] →
   codeAny (model l.prog w) callerA (.call (.ref fa) ⟨[.ref a],[]⟩) (fun r z=>r=.ok (.ret (.bool true))∧OldK t.heap z.heap∧z.os=t.os∧AllBare z.gens) t):WalkO q loose XP YP l.row.toRowW d [] (fun f vs=>PySem.call f vs):=by
 intro w t₀ t mg mb G Y fa o pm cd doc dV kV x1 x2 x3 x4 x5 x6 args vals as pre lay rd wl lo
 have e1:dV=.none:=Dflts.none x4 nodf
 have e2:kV=.none:=Dflts.noKw x4
 subst e1 e2
 obtain ⟨a,vs,ns,rfl,rfl,y1,y2,y3⟩:=Att.script_of hn pre wl
 have run:=go w t₀ t mg mb fa o pm cd doc a vs ns (Adp lay) G Y x1 (fd_plain x2) x3 x5 y1 y2 y3 x6
 refine enter_call (codeAny_mono run fun r z hq=>?_)
 obtain ⟨rfl,z2,z3,z4⟩:=hq
 refine ⟨.inl ⟨.bool true,.bool true,[],rfl,fun _=>rfl,.bool true,Att.post_true l _,fun _=>⟨List.Pairwise.nil,fun _ no=>(nomatch no)⟩⟩,z2,z3,z4⟩
end Lw
end
section
namespace Lw
open PySem PySem.Spec PySem.W PyProof.Rows
def Rn {α:Type}(key:Nat→Int)(n:Nat):KasT α→(α→Prop)→Prop
 |.ret a,R=>R a
 |.ask i j k,R=>i<n∧j<n∧Rn key n (k (decide (key i<key j))) R
theorem Rn.bind {α β:Type}{key:Nat→Int}{n:Nat}{f:α→KasT β}{R:β→Prop}:∀{t:KasT α},Rn key n t (fun a=>Rn key n (f a) R)→Rn key n (t.bind f) R
 |.ret _,h=>h
 |.ask _ _ k,⟨h1,h2,h3⟩=>⟨h1,h2,Rn.bind (t:=k _) h3⟩
theorem Rn.mono {α:Type}{key:Nat→Int}{n:Nat}{R R':α→Prop}(hr:∀a,R a→R' a):∀{t:KasT α},Rn key n t R→Rn key n t R'
 |.ret a,h=>hr a h
 |.ask _ _ k,⟨h1,h2,h3⟩=>⟨h1,h2,Rn.mono hr (t:=k _) h3⟩
theorem Rn.wp {α:Type}{key:Nat→Int}{n:Nat}{cmp:Nat→Nat→(Bool→Shared→Prop)→Shared→Prop}{s:Shared}(hc:∀i j,i<n→j<n→∀C:Bool→Shared→Prop,C (decide (key i<key j)) s→cmp i j C s){Q:α→Shared→Prop}:∀{t:KasT α},Rn key n t (fun a=>Q a s)→t.kasWp cmp Q s
 |.ret _,h=>h
 |.ask i j k,⟨h1,h2,h3⟩=>hc i j h1 h2 _ (Rn.wp hc (t:=k _) h3)
section
variable {key:Nat→Int}{N:Nat}
def Pv (p:Array Nat)(k:Nat):Nat:=p[k]?.getD 0
theorem E3 (p:Array Nat)(k:Nat):p.getD k 0=Pv p k:=by
 unfold Pv
 exact Array.getD_eq_getD_getElem? ..
theorem Fd {p:Array Nat}{i j:Nat}(hj:j≤p.size)(k:Nat):Pv (kas_rev p i j) k=if i≤k∧k<j then Pv p (i+j-1-k) else Pv p k:=by
 unfold Pv kas_rev
 rw [getElem?_mirror_all hj]
 split<;>rfl
theorem Ahz {p:Array Nat}{src d:Nat}(hs:src<p.size)(hd:d≤src)(k:Nat):Pv (bubble p src d) k=if k=src-d then Pv p src else if src-d<k∧k≤src then Pv p (k-1) else Pv p k:=by
 unfold Pv
 rw [getElem?_bubble hs d hd]
 split
 ·rfl
 ·split<;>rfl
theorem Z6 (p:Array Nat)(i j:Nat):(kas_rev p i j).size=p.size:=mirror_size _ _ _ _
def Lt (key:Nat→Int)(i j:Nat):Prop:=key i<key j∨(key i=key j∧i<j)
structure Jc (N:Nat)(p:Array Nat)(n:Nat):Prop where
 sz:p.size=N
 tl:∀k,n≤k→k<N→Pv p k=k
 hd:∀k,k<n→Pv p k<n
 le:n≤N
theorem Jc.lt {p:Array Nat}{n:Nat}(h:Jc N p n){k:Nat}(hk:k<N):Pv p k<N:=by
 by_cases c:k<n
 ·have:=h.hd k c
  have:=h.le
  omega
 ·rw [h.tl k (by omega) hk]
  exact hk
theorem Jc.one {p:Array Nat}{n:Nat}(h:Jc N p n)(hn:n<N):Jc N p (n+1):=⟨h.sz,fun k h1 h2=>h.tl k (by omega) h2,fun k hk=>by
 by_cases c:k<n
 ·have:=h.hd k c
  omega
 ·have:k=n:=by omega
  subst this
  rw [h.tl k (Nat.le_refl _) hn]
  exact hk,hn⟩
theorem Jc.rev {p:Array Nat}{n i:Nat}(h:Jc N p n){j:Nat}(hj:j≤n):Jc N (kas_rev p i j) n:=⟨by rw [Z6,h.sz],fun k h1 h2=>by
 rw [Fd (by rw [h.sz];have:=h.le;omega),if_neg (by omega)]
 exact h.tl k h1 h2,fun k hk=>by
 rw [Fd (by rw [h.sz];have:=h.le;omega)]
 split
 ·exact h.hd _ (by omega)
 ·exact h.hd k hk,h.le⟩
def As (key:Nat→Int)(p:Array Nat)(n:Nat):Prop:=∀a b,a<b→b<n→Lt key (Pv p a) (Pv p b)
theorem Aih {p:Array Nat}{n:Nat}(h:Jc N p n)(ha:As key p n)(h1:1≤n)(hn:n<N)(hk:¬key (Pv p n)<key (Pv p (n-1))):As key p (n+1):=fun a b hab hb=>by
 by_cases c:b<n
 ·exact ha a b hab c
 ·have:b=n:=by omega
  subst this
  have e:=h.tl b (Nat.le_refl _) hn
  have l:=h.hd a hab
  rw [e] at hk ⊢
  have q:key (Pv p a)≤key (Pv p (b-1)):=by
   by_cases d:a=b-1
   ·rw [d]
    exact Int.le_refl _
   ·rcases ha a (b-1) (by omega) (by omega) with x|x<;>omega
  by_cases d:key (Pv p a)<key b
  ·exact .inl d
  ·exact .inr ⟨by omega,l⟩
theorem Ue {p:Array Nat}:∀(f n:Nat),Jc N p n→As key p n→1≤n→n+f=N→Rn key N (kas_asc p f n) fun m=>Jc N p m∧As key p m∧n≤m∧(m<N→key (Pv p m)<key (Pv p (m-1)))
 |0,n,h,ha,h1,e=>⟨h,ha,Nat.le_refl _,fun c=>by omega⟩
 | f+1,n,h,ha,h1,e=>by
  show _<N∧_<N∧Rn key N _ _
  rw [E3,E3]
  refine ⟨h.lt (by omega),h.lt (by omega),?_⟩
  by_cases c:key (Pv p n)<key (Pv p (n-1))
  ·rw [decide_eq_true c]
   exact ⟨h,ha,Nat.le_refl _,fun _=>c⟩
  ·rw [decide_eq_false c]
   exact Rn.mono (fun m ⟨a1,a2,a3,a4⟩=>⟨a1,a2,by omega,a4⟩) (Ue f (n+1) (h.one (by omega)) (Aih h ha h1 (by omega) c) (by omega) (by omega))
def Da (key:Nat→Int)(p:Array Nat)(n:Nat):Prop:=∀a b,a<b→b<n→Lt key (Pv p b) (Pv p a)
structure De (key:Nat→Int)(p:Array Nat)(n q:Nat):Prop where
 ql:q<n
 dn:∀a b,a<b→b<n→a+q+1<n→Lt key (Pv p b) (Pv p a)
 gp:∀a,a+q+1<n→key (Pv p (n-1))<key (Pv p a)
 eq:∀a b,n≤a+q+1→a<b→b<n→key (Pv p a)=key (Pv p b)∧Pv p a<Pv p b
theorem De.all {p:Array Nat}{n q:Nat}(h:Jc N p n)(d:De key p n q):Da key (kas_rev p (n-(q+1)) n) n:=by
 have hz:n≤p.size:=by rw [h.sz];exact h.le
 have ql:=d.ql
 refine fun a b hab hb=>?_
 rw [Fd hz,Fd hz]
 by_cases ca:n-(q+1)≤a
 ·rw [if_pos ⟨by omega,hb⟩,if_pos ⟨ca,by omega⟩]
  obtain ⟨e,l⟩:=d.eq (n-(q+1)+n-1-b) (n-(q+1)+n-1-a) (by omega) (by omega) (by omega)
  exact .inr ⟨e,l⟩
 ·rw [if_neg (show ¬(n-(q+1)≤a∧a<n) by omega)]
  split
  ·exact d.dn a _ (by omega) (by omega) (by omega)
  ·exact d.dn a b hab hb (by omega)
theorem De.zero {p:Array Nat}{n:Nat}(d:De key p n 0):Da key p n:=fun a b hab hb=>d.dn a b hab hb (by omega)
theorem De.last {p:Array Nat}{n q:Nat}(d:De key p n q){a:Nat}(ha:a<n):key (Pv p (n-1))≤key (Pv p a):=by
 have ql:=d.ql
 by_cases e:a=n-1
 ·rw [e]
  exact Int.le_refl _
 ·by_cases c:a+q+1<n
  ·exact Int.le_of_lt (d.gp a c)
  ·have:=(d.eq a (n-1) (by omega) (by omega) (by omega)).1
   omega
theorem Da.below {p:Array Nat}{n:Nat}(h:Jc N p n)(d:Da key p n)(hn:n<N)(hk:∀a,a<n→key n<key (Pv p a)):De key p (n+1) 0:=⟨by omega,fun a b hab hb _=>by
 by_cases c:b<n
 ·exact d a b hab c
 ·have:b=n:=by omega
  subst this
  rw [h.tl b (Nat.le_refl _) hn]
  exact .inl (hk a hab),fun a ha=>by
 show key (Pv p n)<_
 rw [h.tl n (Nat.le_refl _) hn]
 exact hk a (by omega),fun a b h1 h2 h3=>by omega⟩
theorem De.same {p:Array Nat}{n q:Nat}(h:Jc N p n)(d:De key p n q)(hn:n<N)(hk:key n=key (Pv p (n-1))):De key p (n+1) (q+1):=by
 have ql:=d.ql
 have e:=h.tl n (Nat.le_refl _) hn
 refine ⟨by omega,fun a b hab hb hq=>?_,fun a ha=>?_,fun a b h1 h2 h3=>?_⟩
 ·by_cases c:b<n
  ·exact d.dn a b hab c (by omega)
  ·have:b=n:=by omega
   subst this
   rw [e]
   have:=d.gp a (by omega)
   exact .inl (by omega)
 ·show key (Pv p n)<_
  rw [e,hk]
  exact d.gp a (by omega)
 ·by_cases c:b<n
  ·exact d.eq a b (by omega) h2 c
  ·have:b=n:=by omega
   subst this
   rw [e]
   refine ⟨?_,h.hd a h2⟩
   by_cases z:a=b-1
   ·rw [z]
    exact hk.symm
   ·rw [hk]
    exact (d.eq a (b-1) (by omega) (by omega) (by omega)).1
theorem Ld:∀(f:Nat) {p:Array Nat} {n q:Nat},Jc N p n→De key p n q→n+f=N→Rn key N (kas_desc f p n q) fun r=>Jc N r.1 r.2.1∧De key r.1 r.2.1 r.2.2
 |0,p,n,q,h,d,e=>⟨h,d⟩
 | f+1,p,n,q,h,d,e=>by
  have ql:=d.ql
  have hn:n<N:=by omega
  show _<N∧_<N∧Rn key N _ _
  rw [E3,E3]
  have en:=h.tl n (Nat.le_refl _) hn
  refine ⟨h.lt hn,h.lt (by omega),?_⟩
  by_cases c:key (Pv p n)<key (Pv p (n-1))
  ·simp only [decide_eq_true c,↓reduceIte]
   rw [en] at c
   by_cases z:q>0
   ·rw [if_pos z]
    have h':=h.rev (i:=n-(q+1)) (Nat.le_refl n)
    refine Ld f (h'.one hn) ((d.all h).below h' hn fun a ha=>?_) (by omega)
    rw [Fd (by rw [h.sz];omega)]
    split
    ·have:=d.last (a:=n-(q+1)+n-1-a) (by omega)
     omega
    ·have:=d.last ha
     omega
   ·rw [if_neg z]
    have:q=0:=by omega
    subst this
    exact Ld f (h.one hn) (d.zero.below h hn fun a ha=>by have:=d.last ha;omega) (by omega)
  ·simp only [decide_eq_false c,Bool.false_eq_true,↓reduceIte]
   show _<N∧_<N∧Rn key N _ _
   refine ⟨h.lt (by omega),h.lt hn,?_⟩
   by_cases c':key (Pv p (n-1))<key (Pv p n)
   ·simp only [decide_eq_true c',↓reduceIte]
    exact ⟨h,d⟩
   ·simp only [decide_eq_false c',Bool.false_eq_true,↓reduceIte]
    exact Ld f (h.one hn) (d.same h hn (by rw [en] at c c';omega)) (by omega)
theorem Da.turn {p:Array Nat}{n:Nat}(h:Jc N p n)(d:Da key p n):As key (kas_rev p 0 n) n:=fun a b hab hb=>by
 have hz:n≤p.size:=by rw [h.sz];exact h.le
 rw [Fd hz,Fd hz,if_pos ⟨Nat.zero_le _,by omega⟩,if_pos ⟨Nat.zero_le _,hb⟩]
 exact d _ _ (by omega) (by omega)
theorem Tm {p:Array Nat}{n:Nat}(h:Jc N p n)(d:Da key p n)(h1:1≤n):Rn key N (kas_tail3 n N p) fun r=>Jc N r.2 r.1∧As key r.2 r.1∧1≤r.1:=by
 unfold kas_tail3
 exact Rn.bind (Rn.mono (fun m ⟨a1,a2,a3,_⟩=>⟨a1,a2,by omega⟩) (Ue (N-n) n (h.rev (Nat.le_refl n)) (d.turn h) h1 (by have:=h.le;omega)))
theorem W6 {p:Array Nat}{n:Nat}(h:Jc N p n)(d:Da key p n)(h1:1≤n)(hn:n<N)(hk:∀a,a<n→key n<key (Pv p a)):Rn key N (kas_descPart n N p) fun r=>Jc N r.2 r.1∧As key r.2 r.1∧1≤r.1:=by
 unfold kas_descPart
 refine Rn.bind (Rn.mono ?_ (Ld (N-(n+1)) (h.one hn) (d.below h hn hk) (by omega)))
 rintro ⟨p',n',q'⟩ ⟨h',d'⟩
 have ql:=d'.ql
 have ql:q'<n':=ql
 show Rn key N (if q'>0 then kas_tail3 n' N (kas_rev p' (n'-(q'+1)) n') else kas_tail3 n' N p') _
 by_cases z:q'>0
 ·rw [if_pos z]
  exact Tm (h'.rev (Nat.le_refl _)) (d'.all h') (by omega)
 ·rw [if_neg z]
  have:q'=0:=by omega
  subst this
  exact Tm h' d'.zero (by omega)
theorem Z9 {p:Array Nat}(h:Jc N p 1)(hN:1≤N):Rn key N (kas_count N p) fun r=>Jc N r.2 r.1∧As key r.2 r.1∧1≤r.1:=by
 unfold kas_count
 refine Rn.bind (Rn.mono ?_ (Ue (N-1) 1 h (fun a b h1 h2=>by omega) (Nat.le_refl _) (by omega)))
 intro n ⟨h',a',n1,lo⟩
 have le:=h'.le
 by_cases e:(n==N)=true
 ·rw [if_pos e]
  exact ⟨h',a',n1⟩
 ·rw [if_neg e]
  have hn:n<N:=by
   have:n≠N:=fun c=>e (by simp [c])
   omega
  have lo:=lo hn
  rw [h'.tl n (Nat.le_refl _) hn] at lo
  by_cases z:n>1
  ·rw [if_pos z]
   show _<N∧_<N∧Rn key N _ _
   rw [E3,E3]
   refine ⟨h'.lt (by omega),h'.lt (by omega),?_⟩
   by_cases c:key (Pv p 0)<key (Pv p (n-1))
   ·simp only [decide_eq_true c,↓reduceIte]
    exact ⟨h',a',n1⟩
   ·simp only [decide_eq_false c,Bool.false_eq_true,↓reduceIte]
    have hz:n≤p.size:=by rw [h'.sz];exact le
    have mono:∀a b,a≤b→b<n→key (Pv p a)≤key (Pv p b):=fun a b hab hb=>by
     by_cases e:a=b
     ·rw [e]
      exact Int.le_refl _
     ·rcases a' a b (by omega) hb with x|x<;>omega
    have alike:∀a,a<n→key (Pv p a)=key (Pv p (n-1)):=fun a ha=>by
     have:=mono 0 a (by omega) ha
     have:=mono a (n-1) (by omega) (by omega)
     omega
    refine W6 (h'.rev (Nat.le_refl n)) (fun a b hab hb=>?_) n1 hn fun a ha=>?_
    ·rw [Fd hz,Fd hz,if_pos ⟨Nat.zero_le _,hb⟩,if_pos ⟨Nat.zero_le _,by omega⟩]
     exact a' _ _ (by omega) (by omega)
    ·rw [Fd hz,if_pos ⟨Nat.zero_le _,ha⟩,alike _ (by omega)]
     exact lo
  ·rw [if_neg z]
   have:n=1:=by omega
   subst this
   exact W6 h' (fun a b h1 h2=>by omega) n1 hn fun a ha=>by
    have:a=0:=by omega
    subst this
    exact lo
theorem Mf {p:Array Nat}{k:Nat}(h:Jc N p k)(ha:As key p k)(hk:k<N):∀(f l r:Nat),l≤r→r≤k→r≤l+f→(∀a,a<l→¬key k<key (Pv p a))→(∀a,r≤a→a<k→key k<key (Pv p a))→Rn key N (kas_place p k f l r) fun m=>m≤k∧(∀a,a<m→¬key k<key (Pv p a))∧∀a,m≤a→a<k→key k<key (Pv p a)
 |0,l,r,lr,rk,rf,lo,hi=>⟨by omega,lo,fun a h1 h2=>hi a (by omega) h2⟩
 | f+1,l,r,lr,rk,rf,lo,hi=>by
  unfold kas_place
  by_cases c:l≥r
  ·rw [if_pos c]
   exact ⟨by omega,lo,fun a h1 h2=>hi a (by omega) h2⟩
  ·rw [if_neg c]
   show _<N∧_<N∧Rn key N _ _
   rw [E3,E3]
   refine ⟨h.lt hk,h.lt (by omega),?_⟩
   rw [h.tl k (Nat.le_refl _) hk]
   have mono:∀a b,a≤b→b<k→key (Pv p a)≤key (Pv p b):=fun a b hab hb=>by
    by_cases e:a=b
    ·rw [e]
     exact Int.le_refl _
    ·rcases ha a b (by omega) hb with x|x<;>omega
   by_cases d:key k<key (Pv p ((l+r) / 2))
   ·simp only [decide_eq_true d,↓reduceIte]
    refine Mf h ha hk f l ((l+r) / 2) (by omega) (by omega) (by omega) lo fun a h1 h2=>?_
    have:=mono _ _ h1 h2
    omega
   ·simp only [decide_eq_false d,Bool.false_eq_true,↓reduceIte]
    refine Mf h ha hk f ((l+r) / 2+1) r (by omega) rk (by omega) (fun a h1=>?_) hi
    have:=mono a ((l+r) / 2) (by omega) (by omega)
    omega
theorem Aae:∀(f:Nat) {p:Array Nat} {k:Nat},Jc N p k→As key p k→k+f=N→Rn key N (kas_bin f p k) fun p'=>Jc N p' N∧As key p' N
 |0,p,k,h,ha,e=>by
  have:k=N:=by omega
  subst this
  exact ⟨h,ha⟩
 | f+1,p,k,h,ha,e=>by
  have hk:k<N:=by omega
  unfold kas_bin
  refine Rn.bind (Rn.mono ?_ (Mf h ha hk k 0 k (Nat.zero_le _) (Nat.le_refl _) (by omega) (fun a h1=>by omega) fun a h1 h2=>by omega))
  intro m ⟨mk,lo,hi⟩
  have hs:k<p.size:=by rw [h.sz];exact hk
  have at':=Ahz hs (d:=k-m) (by omega)
  have e1:k-(k-m)=m:=by omega
  rw [e1] at at'
  have en:=h.tl k (Nat.le_refl _) hk
  rw [en] at at'
  refine Aae f ⟨by rw [bubble_size,h.sz],fun a h1 h2=>?_,fun a h1=>?_,by omega⟩ (fun a b hab hb=>?_) (by omega)
  ·rw [at',if_neg (by omega),if_neg (by omega)]
   exact h.tl a (by omega) h2
  ·rw [at']
   split
   ·omega
   ·split
    ·have:=h.hd (a-1) (by omega)
     omega
    ·have:=h.hd a (by omega)
     omega
  ·rw [at',at']
   by_cases ca:a=m
   ·rw [if_pos ca,if_neg (by omega),if_pos (by omega)]
    exact .inl (hi (b-1) (by omega) (by omega))
   ·rw [if_neg ca]
    by_cases cb:b=m
    ·rw [if_pos cb,if_neg (by omega)]
     have:=lo a (by omega)
     have l:=h.hd a (by omega)
     by_cases d:key (Pv p a)<key k
     ·exact .inl d
     ·exact .inr ⟨by omega,l⟩
    ·rw [if_neg cb]
     by_cases c1:m<a
     ·rw [if_pos (by omega),if_pos (by omega)]
      exact ha _ _ (by omega) (by omega)
     ·rw [if_neg (by omega)]
      by_cases c2:m<b
      ·rw [if_pos (by omega)]
       exact ha _ _ (by omega) (by omega)
      ·rw [if_neg (by omega)]
       exact ha a b hab (by omega)
theorem Aap {N k:Nat}(h:k<N):Pv (List.toArray (List.range N)) k=k:=by
 unfold Pv
 simp [h]
theorem Qd (hN:1≤N):Rn key N (kas_sort N) fun p=>Jc N p N∧As key p N:=by
 unfold kas_sort
 refine Rn.bind (Rn.mono ?_ (Z9 (p:=List.toArray (List.range N)) ⟨by simp,fun k _ h2=>Aap h2,fun k hk=>by
  have:k=0:=by omega
  subst this
  rw [Aap (by omega)]
  omega,hN⟩ hN))
 rintro ⟨m,p⟩ ⟨h,ha,m1⟩
 have h:Jc N p m:=h
 have m1:1≤m:=m1
 show Rn key N (if m<N then kas_bin (N-max m 1) p (max m 1) else .ret p) _
 have le:=h.le
 by_cases c:m<N
 ·rw [if_pos c,Nat.max_eq_left m1]
  exact Aae (N-m) h ha (by omega)
 ·rw [if_neg c]
  have:m=N:=by omega
  subst this
  exact ⟨h,ha⟩
end
end Lw
end
section
namespace Lw
open PySem PySem.Spec PySem.W PyProof.Rows L2
def Fx (key:Nat→Int)(n:Nat)(p:List Nat):Prop:=p.length=n∧(∀i∈p,i<n)∧p.Pairwise (Lt key)
def Kp (a:Addr)(h h':Heap):Prop:=∀b o,b≠a→h.get? b=some o→h'.get? b=some o
def Ks (key:Nat→Int)(ks:List Value):Prop:=∀i k,ks[i]? =some k→∃t,k=Value.int (key i) t
theorem Ks.snoc {key:Nat→Int}{ks:List Value}{t:Tok}(h:Ks key ks):Ks key (ks++[Value.int (key ks.length) t]):=fun i k e=>by
 rw [List.getElem?_append] at e
 split at e
 ·exact h i k e
 ·rename_i c
  cases q:i-ks.length with
  |zero=>
   rw [q] at e
   have e:Value.int (key ks.length) t=k:=by simpa using e
   have:i=ks.length:=by omega
   rw [this]
   exact ⟨t,e.symm⟩
  |succ m=>
   rw [q] at e
   simp at e
def Gk (vs:List Value)(p:List Nat):List Value:=p.map fun i=>vs.getD i Value.none
theorem L7 (vs:List Value):Gk vs (List.range vs.length)=vs:=by
 refine List.ext_getElem (by simp [Gk]) fun i h1 h2=>?_
 simp [Gk,h2]
theorem P0 {key:Nat→Int}{n:Nat}(h:n<2):Fx key n (List.range n):=by
 refine ⟨List.length_range,fun i hi=>List.mem_range.mp hi,?_⟩
 match n,h with
 |0,_=>exact .nil
 |1,_=>exact List.pairwise_singleton _ _
theorem Vu {key:Nat→Int}{n:Nat}{p:Array Nat}(h:Jc n p n)(ha:As key p n):Fx key n p.toList:=by
 have pv:∀i (hi:i<p.toList.length),p.toList[i]=Pv p i:=fun i hi=>by
  have hi':i<p.size:=by simpa using hi
  unfold Pv
  simp [hi']
 refine ⟨by rw [Array.length_toList,h.sz],fun i hi=>?_,List.pairwise_iff_getElem.mpr fun i j hi hj hij=>?_⟩
 ·obtain ⟨k,hk,rfl⟩:=List.getElem_of_mem hi
  rw [pv k hk]
  exact h.lt (by rw [Array.length_toList,h.sz] at hk;exact hk)
 ·rw [pv i hi,pv j hj]
  exact ha i j hij (by rw [Array.length_toList,h.sz] at hj;exact hj)
section
variable {prog:Program}{w:World}{A:Around}{E:Value→Shared→Prop}{s:Shared}{a kS:Addr}{vs:List Value}
theorem W4 {st:SortSt}{e e1:Nat}{ks out:List Value}{P:PySem.Fin→Shared→Prop}(hne:kS≠a)(hk:s.heap.get? kS=some (seqObj "list" (List.toArray ks) e))(ha:s.heap.get? a=some (seqObj "list" #[] e1))
  (hout:(arrOf st).map (·.2)=List.toArray out) (hz:out.length<64) (hkz:ks.length<64) (hf:failedOf st=none)
  (h:∀h' n,(∀b o,b≠a→b≠kS→s.heap.get? b=some o→h'.get? b=some o)→h'.get? a=some (seqObj "list" (List.toArray out) n)→P (.done (.ret .none)) { s with heap:=h' }) :
  wpAny (model prog w) A (ksk_tail a false e1 (.ref kS) st) P E s:=by
 have s1:=Heap.SameBut.update s.heap kS (Obj.mapSeq fun _=>(#[]:Array Value))
 have ha1:(s.heap.update kS (Obj.mapSeq fun _=>(#[]:Array Value))).get? a=some (seqObj "list" #[] e1):=(s1.2 a (Ne.symm hne)).trans ha
 have s2:=Heap.SameBut.update (s.heap.update kS (Obj.mapSeq fun _=>(#[]:Array Value))) a (Obj.mapSeq fun _=>List.toArray out)
 obtain ⟨c2,hc2⟩:∃c2,((s.heap.update kS (Obj.mapSeq fun _=>(#[]:Array Value))).update a (Obj.mapSeq fun _=>List.toArray out)).get? a=some (seqObj "list" (List.toArray out) c2):=⟨_,get?_update_seq ha1 fun _=>List.toArray out⟩
 unfold ksk_tail
 try dsimp only
 rw [hout]
 refine wpAny_bind (listUpdate_at hk rfl ?_ (by rw [List.size_toArray,sizeLine_eq];omega) (Nat.zero_le _))
 refine wpAny_bind (wpAny_letGo ?_)
 refine wpAny_bind (seqEpoch_at ha1 rfl ?_)
 refine wpAny_bind (listUpdate_at ha1 rfl ?_ (Nat.zero_le _) (by show (List.toArray out).size≤_;rw [List.size_toArray,sizeLine_eq];omega))
 rw [hf]
 simp only [bne_self_eq_false,Bool.false_eq_true,if_false]
 exact wpAny_pure (h _ c2 (fun b o n1 n2 q=>(s2.2 b n1).trans ((s1.2 b n2).trans q)) hc2)
theorem Aho {key:Nat→Int}{e e1:Nat}{ks:List Value}{P:PySem.Fin→Shared→Prop}(hne:kS≠a)(hk:s.heap.get? kS=some (seqObj "list" (List.toArray ks) e))(ha:s.heap.get? a=some (seqObj "list" #[] e1))(hl:ks.length=vs.length)(h64:vs.length<64)(hks:Ks key ks)
  (h:∀h' n p,Fx key vs.length p→(∀b o,b≠a→b≠kS→s.heap.get? b=some o→h'.get? b=some o)→h'.get? a=some (seqObj "list" (List.toArray (Gk vs p)) n)→P (.done (.ret .none)) { s with heap:=h' }) :
  wpAny (model prog w) A (ksk_end a false vs.toArray e1 (.ref kS) (List.toArray ks)) P E s:=by
 unfold ksk_end
 try dsimp only
 simp only [Bool.false_eq_true,if_false]
 by_cases h2:vs.length<2
 ·have h2':vs.toArray.size<2:=by rwa [List.size_toArray]
  rw [if_pos h2',if_pos h2']
  refine wpAny_bind (wpAny_pure ?_)
  rw [StateT.run_pure]
  refine wpAny_bind (wpAny_pure ?_)
  try dsimp only
  refine W4 (out:=Gk vs (List.range vs.length)) hne hk ha ?_ (by rw [L7];exact h64) (by omega) rfl (fun h' n=>h h' n _ (P0 h2))
  rw [L7]
  show ((List.toArray ks).zip vs.toArray).map (·.2)=_
  refine Array.ext (by simp [hl]) fun i h1 h2=>?_
  simp
 ·have h2':¬vs.toArray.size<2:=by rwa [List.size_toArray]
  rw [if_neg h2',if_neg h2']
  refine wpAny_bind (kas_kind (T:=.type "int") (by omega) (fun v hv=>?_) rfl rfl ?_)
  ·obtain ⟨i,hi,rfl⟩:=List.getElem_of_mem hv
   obtain ⟨t,e⟩:=hks i _ (List.getElem?_eq_getElem hi)
   rw [e]
   exact .now
  ·refine wpAny_bind (wpAny_mono (kat_run (E:=E) (Q:=fun st' s'=>s'=s∧∃p:Array Nat,Fx key vs.length p.toList∧(arrOf st').map (·.2)=List.toArray (Gk vs p.toList)∧failedOf st'=none)
    (G:=fun p s'=>s'=s∧Fx key vs.length p.toList) hl (by omega) h64 (fun p' st' s' a1 a2 a3 ⟨a4,a5⟩=>⟨a4,p',a5,kat_snds hl a2,a3⟩) ?_) (fun r s' hq=>?_) fun _ _ x=>x)
   ·refine Rn.wp (key:=key) (n:=vs.length) (fun i j hi hj C c=>?_) (Rn.mono (fun p hp=>⟨rfl,Vu hp.1 hp.2⟩) (Qd (by omega)))
    unfold kas_ask
    have gi:∀i,i<vs.length→∃t,ks.getD i Value.none=.int (key i) t:=fun i hi=>by
     have hi':i<ks.length:=by omega
     obtain ⟨t,e⟩:=hks i _ (List.getElem?_eq_getElem hi')
     exact ⟨t,by rw [List.getD_eq_getElem?_getD,List.getElem?_eq_getElem hi',Option.getD_some,e]⟩
    obtain ⟨t1,e1⟩:=gi i hi
    obtain ⟨t2,e2⟩:=gi j hj
    rw [e1,e2]
    exact kat_lt_int c
   ·obtain ⟨rfl,p,hs,ho,hf⟩:=hq
    obtain ⟨⟨⟩,st'⟩:=r
    try dsimp only
    exact W4 hne hk ha ho (by unfold Gk;rw [List.length_map,hs.1];exact h64) (by omega) hf fun h' n=>h h' n _ hs
theorem Akq {key:Nat→Int}{f:Value}{n:Nat}{P:PySem.Fin→Shared→Prop}(ho:s.heap.get? a=some (seqObj "list" vs.toArray n))(h64:vs.length<64)
  (hk:∀(i:Nat) (v:Value) (h1:Heap) (t1:Nat),vs[i]? =some v→Kp a s.heap h1→∀Q:Value→Shared→Prop,(∀h2 t2 t,(∀b o,h1.get? b=some o→h2.get? b=some o)→Q (.int (key i) t) { s with heap:=h2,toks:=t2 }) →
   wpAny (model prog w) A (call f [v]) Q (fun _ _=>False) { s with heap:=h1,toks:=t1 })
  (h:∀h' t n p,Fx key vs.length p→Kp a s.heap h'→h'.get? a=some (seqObj "list" (List.toArray (Gk vs p)) n)→P (.done (.ret .none)) { s with heap:=h',toks:=t }) :
  wpAny (model prog w) A (ksk_tree a f false) P E s:=by
 have al:a<s.heap.objs.size:=Heap.lt_size ho
 have s1:=Heap.SameBut.update s.heap a (Obj.mapSeq fun _=>(#[]:Array Value))
 obtain ⟨e1,ho1⟩:∃e1,(s.heap.update a (Obj.mapSeq fun _=>(#[]:Array Value))).get? a=some (seqObj "list" #[] e1):=⟨_,get?_update_seq ho fun _=>#[]⟩
 have hkS:((s.heap.update a (Obj.mapSeq fun _=>(#[]:Array Value))).push (seqObj "tuple" vs.toArray 0)).objs.size=s.heap.objs.size+1:=by rw [size_push',Heap.size_update]
 unfold ksk_tree
 refine wpAny_bind (listItems_at ho rfl ?_)
 refine wpAny_bind (listUpdate_at ho rfl ?_ (by rw [List.size_toArray,sizeLine_eq];omega) (Nat.zero_le _))
 refine wpAny_bind (seqEpoch_at ho1 rfl ?_)
 refine wpAny_bind (wpAny_newTuple ?_ (by show vs.length≤_;rw [sizeLine_eq];omega))
 refine wpAny_bind (wpAny_newList ?_ (Nat.zero_le _))
 refine wpAny_holding ?_
 have kne:((s.heap.update a (Obj.mapSeq fun _=>(#[]:Array Value))).push (seqObj "tuple" vs.toArray 0)).objs.size≠a:=by rw [hkS];exact Nat.ne_of_gt (Nat.lt_succ_of_lt al)
 have kk:=Heap.get?_push_size ((s.heap.update a (Obj.mapSeq fun _=>(#[]:Array Value))).push (seqObj "tuple" vs.toArray 0)) (o:=seqObj "list" #[] 0) rfl
 have ka:(((s.heap.update a (Obj.mapSeq fun _=>(#[]:Array Value))).push (seqObj "tuple" vs.toArray 0)).push (seqObj "list" #[] 0)).get? a=some (seqObj "list" #[] e1):=Heap.get?_push_of_some _ (Heap.get?_push_of_some _ ho1)
 have kp:Kp a s.heap (((s.heap.update a (Obj.mapSeq fun _=>(#[]:Array Value))).push (seqObj "tuple" vs.toArray 0)).push (seqObj "list" #[] 0)):=fun b o ne e=>
  Heap.get?_push_of_some _ (Heap.get?_push_of_some _ ((s1.2 b ne).trans e))
 have kold:s.heap.objs.size≤((s.heap.update a (Obj.mapSeq fun _=>(#[]:Array Value))).push (seqObj "tuple" vs.toArray 0)).objs.size:=by rw [hkS];exact Nat.le_succ _
 show wpAny (model prog w) A (ksk_rest a f false vs.toArray e1 (.ref ((s.heap.update a (Obj.mapSeq fun _=>(#[]:Array Value))).push (seqObj "tuple" vs.toArray 0)).objs.size)) P E { s with heap:=((s.heap.update a (Obj.mapSeq fun _=>(#[]:Array Value))).push (seqObj "tuple" vs.toArray 0)).push (seqObj "list" #[] 0) }
 generalize ((s.heap.update a (Obj.mapSeq fun _=>(#[]:Array Value))).push (seqObj "tuple" vs.toArray 0)).push (seqObj "list" #[] 0)=g at kk ka kp
 generalize ((s.heap.update a (Obj.mapSeq fun _=>(#[]:Array Value))).push (seqObj "tuple" vs.toArray 0)).objs.size=kS at kk kne kold
 unfold ksk_rest
 refine wpAny_bind (wpAny_rule ?_)
 first
  |rw [List.forIn_toArray]
  |(rw [←Array.forIn_toList];simp only [List.toList_toArray])
  |rw [←Array.forIn_toList]
 refine wpAny_bind (ksk_fold (fun i s'=>∃h' t ks e,s'={ s with heap:=h',toks:=t }∧Kp a s.heap h'∧h'.get? a=some (seqObj "list" #[] e1)∧h'.get? kS=some (seqObj "list" (List.toArray ks) e)∧ks.length=i∧Ks key ks) vs 0 _ ⟨g,s.toks,[],0,rfl,kp,ka,kk,rfl,fun i k e=>by simp at e⟩ (fun j x s' hx ⟨h',t,ks,e,es,k1,k2,k3,k4,k5⟩=>?_) fun s' ⟨h',t,ks,e,es,k1,k2,k3,k4,k5⟩=>?_)
 ·subst es
  rw [Nat.zero_add] at k4
  refine wpAny_bind (wpAny_attempt (wpAny_mono (hk j x h' t hx k1 (fun k s''=>∃h2 t2 tk,k=.int (key j) tk∧s''={ s with heap:=h2,toks:=t2 }∧∀b o,h'.get? b=some o→h2.get? b=some o) fun h2 t2 tk kk=>⟨h2,t2,tk,rfl,rfl,kk⟩) (fun k s'' hq=>?_) fun _ _ x=>x.elim))
  obtain ⟨h2,t2,tk,rfl,rfl,kk2⟩:=hq
  have jl:j<vs.length:=(List.getElem?_eq_some_iff.mp hx).1
  have ea:(List.toArray ks).push (Value.int (key j) tk)=List.toArray (ks++[Value.int (key j) tk]):=by simp
  have s3:=Heap.SameBut.update h2 kS (Obj.mapSeq (·.push (Value.int (key j) tk)))
  obtain ⟨c2,hc2⟩:∃c2,(h2.update kS (Obj.mapSeq (·.push (Value.int (key j) tk)))).get? kS=some (seqObj "list" (List.toArray (ks++[Value.int (key j) tk])) c2):=⟨_,by rw [←ea];exact get?_update_seq (kk2 _ _ k3) (·.push (Value.int (key j) tk))⟩
  try dsimp only
  refine wpAny_bind (listUpdate_at (kk2 _ _ k3) rfl ?_ (by rw [List.size_toArray,sizeLine_eq];omega) (Nat.le_trans (Nat.le_of_eq (Array.size_push ..)) (by rw [List.size_toArray,sizeLine_eq];omega)))
  refine wpAny_pure ⟨rfl,_,t2,ks++[Value.int (key j) tk],c2,rfl,fun b o ne q=>(s3.2 b ?_).trans (kk2 _ _ (k1 b o ne q)),(s3.2 a (Ne.symm kne)).trans (kk2 _ _ k2),hc2,by rw [List.length_append,k4];simp,?_⟩
  ·intro e
   exact absurd (Heap.lt_size q) (by rw [e];exact Nat.not_lt.mpr kold)
  ·have:=k5.snoc (t:=tk)
   rwa [k4] at this
 ·subst es
  rw [Nat.zero_add] at k4
  refine wpAny_bind (listItems_at k3 rfl ?_)
  refine Aho (key:=key) kne k3 k2 k4 h64 k5 fun h2 n2 p hp kk2 hc=>h h2 t n2 p hp (fun b o ne q=>kk2 b o ne ?_ (k1 b o ne q)) hc
  intro e
  exact absurd (Heap.lt_size q) (by rw [e];exact Nat.not_lt.mpr kold)
theorem Adh {key:Nat→Int}{f l:Addr}{Q:Value→Shared→Prop}(hl:s.heap.IsList l vs.toArray)(h64:vs.length<64)
  (hk:∀(i:Nat) (v:Value) (h1:Heap) (t1:Nat),vs[i]? =some v→(∀b o,s.heap.get? b=some o→h1.get? b=some o)→∀Q:Value→Shared→Prop,(∀h2 t2 t,(∀b o,h1.get? b=some o→h2.get? b=some o)→Q (.int (key i) t) { s with heap:=h2,toks:=t2 }) →
   wpAny (model prog w) A.in1.in1 (call (.ref f) [v]) Q (fun _ _=>False) { s with heap:=h1,toks:=t1 })
  (h:∀D h' t n p,s.heap.objs.size≤D→Fx key vs.length p→(∀b o,s.heap.get? b=some o→h'.get? b=some o)→h'.get? D=some (seqObj "list" (List.toArray (Gk vs p)) n)→Q (.ref D) { s with heap:=h',toks:=t }) :
  wpAny (model prog w) A (call (.builtin "sorted") [.ref l] [(Str.ofString "key",.ref f)]) Q E s:=by
 refine call_function_entry_kw kind_sorted plain_sorted entry_sorted (ksk_s1 _ _) ?_
 unfold Builtin.«sorted»
 refine wpAny_bind (m:=checkCount "sorted" 1 1 _) (wpAny_pure ?_)
 refine wpAny_bind (collect_list hl ?_ (by rw [sizeLine_eq];omega))
 refine wpAny_bind (wpAny_newList ?_ (by rw [sizeLine_eq];omega))
 have hsz:((s.heap.push (seqObj "list" #[] 0)).update s.heap.objs.size (Obj.mapSeq (· ++ vs.toArray))).objs.size=s.heap.objs.size+1:=by
  rw [Heap.size_update,size_push']
 have hoL:(((s.heap.push (seqObj "list" #[] 0)).update s.heap.objs.size (Obj.mapSeq (· ++ vs.toArray))).push (seqObj "list" vs.toArray 0)).get? (s.heap.objs.size+1)=some (seqObj "list" vs.toArray 0):=by
  rw [←hsz];exact Heap.get?_push_size _ rfl
 have keep:∀b o,s.heap.get? b=some o→(((s.heap.push (seqObj "list" #[] 0)).update s.heap.objs.size (Obj.mapSeq (· ++ vs.toArray))).push (seqObj "list" vs.toArray 0)).get? b=some o:=fun b o q=>by
  have hlt:b<s.heap.objs.size:=Heap.lt_size q
  rw [Heap.get?_push_ne _ _ _ (by rw [hsz];exact Nat.ne_of_lt (Nat.lt_succ_of_lt hlt)),Heap.get?_update_ne _ _ _ _ (Nat.ne_of_lt hlt),Heap.get?_push_ne _ _ _ (Nat.ne_of_lt hlt)]
  exact q
 show wpAny _ _ _ _ _ { s with heap:=((s.heap.push (seqObj "list" #[] 0)).update s.heap.objs.size (Obj.mapSeq (· ++ vs.toArray))).push (seqObj "list" vs.toArray 0) }
 rw [hsz]
 have ne:∀b o,s.heap.get? b=some o→b≠s.heap.objs.size+1:=fun b o e=>Nat.ne_of_lt (Nat.lt_succ_of_lt (Heap.lt_size e))
 refine wpAny_bind (wpAny_holding (wpAny_call_entry_kw slot_list_sort ⟨_,hoL,rfl⟩ entry_list_sort ?body (ksk_l1 _ _)))
 case body=>
  show wpAny (model prog w) A.in1.in1 (Builtin.«list.sort» ⟨[.ref (s.heap.objs.size+1)],[(Str.ofString "key",.ref f)]⟩) _ _ _
  rw [ksk_t1]
  refine Akq (s:={ s with heap:=((s.heap.push (seqObj "list" #[] 0)).update s.heap.objs.size (Obj.mapSeq (· ++ vs.toArray))).push (seqObj "list" vs.toArray 0) }) (key:=key) hoL h64 (fun i v h1 t1 hv k Q hq=>hk i v h1 t1 hv (fun b o e=>k b o (ne b o e) (keep b o e)) Q hq) fun h' t n p hp k hD=>?_
  exact ⟨_,rfl,wpAny_pure ⟨_,rfl,h _ h' t n p (Nat.le_succ _) hp (fun b o e=>k b o (ne b o e) (keep b o e)) hD⟩⟩
end
abbrev Ob (v:Str)(p1 p2 p3:Pos):Expr:=.Subscript (.Name v p1) (.Constant (.int 0) 0 p2) p3
abbrev Qz (v:Str)(p:Pos):Arguments:={ posonlyargs:=[],args:=[{ arg:=v,annotation:=none,pos:=p }],vararg:=none,kwonlyargs:=[],kw_defaults:=[],kwarg:=none,defaults:=[] }
abbrev K7 (v:Str):Scope:={ kind:=.function,names:=[(v,.local)],isGenerator:=false,isCoroutine:=false,more:=[] }
section
variable {prog:Program}{w:World}{A:Around}{E:Value→Shared→Prop}{s:Shared}
theorem Abu {v:Str}{p1 p2 p3 p4:Pos}{name qual:Str}{pm ctv:Value}{c f a:Addr}{l:List Value}{x:Value}{Q:Value→Shared→Prop}
  (hroom:A.depth<recursionLimit) (ho:s.heap.get? f=some (kla_obj name qual (Qz v p4) (Ob v p1 p2 p3) (K7 v) [] pm c ctv)) (hcd:s.heap.CodeRec (.ref c) qual) (hnl:s.heap.NoLimit)
  (hd:(v==("__debug__":Str))=false) (hb:bindArgs (kla_fn name qual (Qz v p4) (Ob v p1 p2 p3) (K7 v) [] pm (.ref c) ctv) ⟨[.ref a],[]⟩=pure [(v,.ref a)])
  (ht:IsTup s.heap a l.toArray) (hx:l[0]? =some x)
  (h:∀h' t,(∀b o,s.heap.get? b=some o→h'.get? b=some o)→Q x { s with heap:=h',toks:=t }) :
  wpAny (model prog w) A (call (.ref f) [.ref a]) Q E s:=by
 refine wpAny_call (kla_callFunE hroom ho rfl rfl rfl rfl hcd ?_)
 show wpAny (model prog w) A.in1 (bindArgs (kla_fn name qual (Qz v p4) (Ob v p1 p2 p3) (K7 v) [] pm (.ref c) ctv) ⟨[.ref a],[]⟩) _ _ _
 rw [hb]
 have lk:(K7 v).names.lookup v=some .local:=by
  show List.lookup v [(v,NameKind.local)]=_
  rw [List.lookup_cons,beq_self_eq_true]
 refine wpAny_pure (wpAny_newFunctionEnv (fun y hy=>?_) (fun y hy=>?_) (fun h1 hns hsb=>⟨hnl.fresh _ hsb,?_⟩) rfl)
 ·obtain rfl:y=(v,.local):=List.mem_singleton.mp hy
  exact fun z=>nomatch z
 ·obtain rfl:y=(v,.ref a):=List.mem_singleton.mp hy
  exact lk
 have hk1:∀b o,s.heap.get? b=some o→h1.get? b=some o:=fun b o e=>hsb.extBut b o (Nat.ne_of_lt (Heap.lt_size e)) (Heap.get?_push_of_some _ e)
 show codeAny _ _ (.expr (Ob v p1 p2 p3) (envX qual (K7 v) s.heap.objs.size f (.ref c) [])) _ _
 refine kla_codeExpr (Subscript_ ?_)
 rw [eval_Name _ _ _ hd]
 refine wpAny_bind (wpAny_standAt (wpAny_loadName_local rfl lk hns (v:=.ref a) ?_ ?_))
 ·show List.lookup v [(v,Value.ref a)]=_
  rw [List.lookup_cons,beq_self_eq_true]
 ·have ht1:IsTup h1 a l.toArray:=by
   obtain ⟨o,e1,e2⟩:=ht
   exact ⟨o,hk1 _ _ e1,e2⟩
  have l0:0<l.length:=(List.getElem?_eq_some_iff.mp hx).1
  refine wpAny_Constant_int ?_
  refine item_tupleL (j:=0) ht1 (by decide) (by decide) (by rw [seqIndex_of (by decide) (by omega)];rfl) hx ?_
  exact h _ _ hk1
end
def Aea (c:Addr)(q:Str):HO:=.ext fun h=>h.CodeRec (.ref c) q
theorem Qq {c:Addr}{q:Str}{h1 h2:Heap}(h:h1.CodeRec (.ref c) q)(k:∀o,h1.get? c=some o→h2.get? c=some o):h2.CodeRec (.ref c) q:=by
 obtain ⟨c',oc,vs,t,e,ho,r⟩:=h
 cases e
 exact ⟨c,oc,vs,t,rfl,k _ ho,r⟩
def A3 (H:Hp)(P:Addr)(pos:Pos)(q:Str):Prop:=∃ps,H P=some (.tbl ps)∧TriplesOk ps.toList∧(codeAmong pos ps.toList=none∨∃c,codeAmong pos ps.toList=some (.ref c)∧H c=some (Aea c q))
theorem A3.up {H H':Hp}{P:Addr}{pos:Pos}{q:Str}(s:Ah H H')(h:A3 H P pos q):A3 H' P pos q:=by
 obtain ⟨ps,h1,h2,h3⟩:=h
 refine ⟨ps,s _ _ h1,h2,h3.imp id ?_⟩
 rintro ⟨c,e1,e2⟩
 exact ⟨c,e1,s _ _ e2⟩
theorem Tj {pos:Pos}{c:Value}:∀(l:List Value),TriplesOk l→TriplesOk (l++[rawInt pos.line,rawInt pos.col,c]):=fun l h=>by
 fun_induction TriplesOk l with
 |case1=>exact trivial
 |case2 a t b u x Em ih=>exact ih h
 |case3=>exact h.elim
def BmB (mg:Str→Option Value)(base:Heap):Prop:=∃(bm:Addr) (ob:Obj),mg "__builtins__"=some (.ref bm)∧bm≠builtinsNs∧base.get? bm=some ob∧ob.cls=.type "module"∧ob.dict=some builtinsNs∧ob.data=.plain
structure Zg (K:PySem.W.Frag)(mg:Str→Option Value)(base:Heap)(cdv:Value)(P:Addr):Prop where
 c:∃c,cdv=.ref c∧codeHdIn K c P=true
 bm:BmB mg base
section
variable {X:Cx}{pins:List (Addr×Obj)}{σ:L2.St}{H:Hp}{s:Shared}{P:Addr}{lp:Pos}{q:Str}
theorem Afb (tf:Zg X.K X.mg X.base X.env.code P)(I:Ar X pins σ H s){ps:Array Value}(e:s.heap.get? P=some (tabObj ps)):s.heap.BuiltinsAt X.mg P:=by
 obtain ⟨bm,ob,h1,h2,h3,h4,h5,h6⟩:=tf.bm
 have e2:=I.bk _ _ h3
 refine ⟨bm,_,h1,h2,fun z=>?_,fun z=>?_,e2,h4,h5,h6⟩
 ·obtain ⟨o,es,ep,ho,hd,_⟩:=I.mod.glob
  rw [z,I.bk _ _ ho] at e2
  cases e2
  rw [hd] at h6
  cases h6
 ·rw [z,e] at e2
  cases e2
  cases h4
theorem Abv {h':Heap}{t':Nat}{ps more:Array Value}{c:Addr}(I:Ar X pins σ H s)(e:H P=some (.tbl ps))(k:Heap.ExtBut P s.heap h')(hP:h'.get? P=some (tabObj (ps++more)))(hc:s.heap.objs.size≤c)(hr:h'.CodeRec (.ref c) q) :
  Ar X pins σ (upd (upd H P (.tbl (ps++more))) c (Aea c q)) { s with heap:=h',toks:=t' }:=by
 have hcn:H c=none:=I.hok.fresh hc
 have Pl:P<s.heap.objs.size:=I.hok.lt e
 have Pc:P≠c:=Nat.ne_of_lt (Nat.lt_of_lt_of_le Pl hc)
 have up:∀b o,b≠P→H b=some o→upd (upd H P (.tbl (ps++more))) c (Aea c q) b=some o:=fun b o n x=>by
  rw [Ak (Bh x hcn),Ak n]
  exact x
 have nP:∀b,H b=none→b≠P:=fun b n z=>by
  rw [z,e] at n
  cases n
 refine I.un ⟨fun b o x n _ _=>k b o (nP b n) x,fun b o x n _ _=>⟨o.slots,k b o (nP b n) x⟩,fun b o x n _=>?_,fun b o x _=>?_,fun b xs x=>?_,fun b o u x=>?_,fun b qs x=>?_⟩ fun b u x=>?_
 ·rw [Ak (Nat.ne_of_lt (Nat.lt_of_lt_of_le (Heap.lt_size x) hc)),Ak (nP b n)]
  exact n
 ·by_cases z:b=P
  ·rw [z]
   exact ⟨_,hP⟩
  ·exact ⟨_,k b o z x⟩
 ·exact up b _ (fun z=>by rw [z,e] at x;cases x) x
 ·exact up b _ (fun z=>by rw [z,e] at x;cases x) x
 ·by_cases z:b=P
  ·rw [z,e] at x
   cases x
   rw [z,Ak Pc,Ad]
   exact ⟨more,rfl⟩
  ·exact ⟨#[],by rw [up b _ z x];simp⟩
 ·by_cases z:b=c
  ·rw [z,Ad] at x
   cases x
   obtain ⟨c',oc,vs,t,e',ho,r⟩:=id hr
   cases e'
   rw [z]
   exact ⟨hr,⟨oc,ho⟩,fun h1 h2 a b=>Qq a b⟩
  ·rw [Ak z] at x
   by_cases z2:b=P
   ·rw [z2,Ad] at x
    cases x
    rw [z2]
    exact hP
   ·rw [Ak z2] at x
    refine (I.hok b u x).stay (fun d v hd y=>k d v ?_ y) (fun d y=>up d _ (fun z=>by rw [z,e] at y;cases y) y) fun d xs y=>up d _ (fun z=>by rw [z,e] at y;cases y) y
    rcases hd with rfl|hd
    ·exact z2
    ·intro z
     rw [z,e] at hd
     cases hd
theorem Aad {v:Str}{p1 p2 p3 p4:Pos}{Q:Value→Shared→Prop}(tf:Zg X.K X.mg X.base X.env.code P)(I:Ar X pins σ H s)(hT:A3 H P lp (X.env.qual++"<lambda>"))
  (h:∀f c H' s' pm ctv,Ar X pins σ H' s'→(∀b o,b≠P→H b=some o→H' b=some o)→A3 H' P lp (X.env.qual++"<lambda>")→s'.heap.get? f=some (kla_obj "<lambda>" (X.env.qual++"<lambda>") (Qz v p4) (Ob v p1 p2 p3) (K7 v) [] pm c ctv)→s'.heap.CodeRec (.ref c) (X.env.qual++"<lambda>")→Q (.ref f) s') :
  wpAny (model X.prog X.w) X.A (eval (.Lambda (Qz v p4) (Ob v p1 p2 p3) (K7 v) lp) X.env) Q X.xe s:=by
 obtain ⟨ps,e,tr,hT⟩:=hT
 obtain ⟨c,ec,hd⟩:=tf.c
 have eP:s.heap.get? P=some (tabObj ps):=I.hok P _ e
 have C:CodeHd s.heap c P:=codeHd_of_K I.kIn hd
 have G:s.heap.Ns mainGlobals X.mg:=I.mod.glob.keeps I.bk
 have hcl:closureFor (K7 v) X.env=pure []:=rfl
 refine kla_eval rfl ?_
 rcases hT with hn|⟨c',hc',ec'⟩
 ·have gP:mainGlobals≠P:=fun z=>by
   obtain ⟨o,es,ep,ho,hd,_⟩:=G
   rw [z,eP] at ho
   cases ho
   cases hd
  refine kla_makeFunction hcl I.ok.glob G ec C eP tr hn gP (Afb tf I eP) fun c' ctv h' tk k1 k2 k3 k4 k5=>?_
  have I2:=Abv (t':=tk) I e k1 k5 k2 k4
  have I3:=I2.kept (h':=h'.push (kla_obj "<lambda>" (X.env.qual++"<lambda>") (Qz v p4) (Ob v p1 p2 p3) (K7 v) [] ((X.mg "__name__").getD .none) c' ctv)) (t':=tk) fun b u x=>Heap.get?_push_of_some _ x
  have hcn:H c'=none:=I.hok.fresh k2
  refine h _ c' _ _ _ ctv I3 (fun b o n x=>by rw [Ak (Bh x hcn),Ak n];exact x) ⟨ps++#[rawInt lp.line,rawInt lp.col,.ref c'],?_,?_,.inr ⟨c',?_,Ad⟩⟩ (Heap.get?_push_size _ rfl) ?_
  ·rw [Ak (Bh e hcn),Ad]
  ·rw [Array.toList_append]
   exact Tj _ tr
  ·rw [Array.toList_append]
   exact codeAmong_snoc _ tr hn
  ·exact Qq k4 fun o x=>Heap.get?_push_of_some _ x
 ·refine kla_makeFunctionHit hcl I.ok.glob G ec C eP tr hc' (Afb tf I eP) fun ctv h' tk k1 k2=>?_
  have I3:=I.kept (h':=h'.push (kla_obj "<lambda>" (X.env.qual++"<lambda>") (Qz v p4) (Ob v p1 p2 p3) (K7 v) [] ((X.mg "__name__").getD .none) c' ctv)) (t':=tk) fun b u x=>Heap.get?_push_of_some _ (k1 _ _ x)
  refine h _ c' _ _ _ ctv I3 (fun b o n x=>x) ⟨ps,e,tr,.inr ⟨c',hc',ec'⟩⟩ (Heap.get?_push_size _ rfl) ?_
  obtain ⟨y1,_,y3⟩:Bb X.prog X.w H s.heap c' (Aea c' (X.env.qual++"<lambda>")):=I.hok c' _ ec'
  exact y3 _ _ y1 fun o x=>Heap.get?_push_of_some _ (k1 _ _ x)
def Agj (K:PySem.W.Frag)(P:Addr)(lp:Pos)(q:Str):List V→Hp→VK→Prop:=fun us H1 Q=>∃(l:Addr) (xs:List V) (key:Nat→Int),us=[.ref l]∧Ay K H1 l xs∧xs.length<64 ∧
 (∀i v,xs[i]? =some v→∃a ys,v=.ref a∧H1 a=some (.tup (.int (key i)::ys)))∧A3 H1 P lp q ∧
 ∀D H2 p,(∀b o,b≠P→H1 b=some o→H2 b=some o)→H1 D=none→H2 D=some (.lst (p.map fun i=>xs.getD i .non))→A3 H2 P lp q→Fx key xs.length p→Q (.ref D) H2
theorem On {xs:List V}{its:List Value}(rv:A4 xs its):∀{L:List Nat},(∀i∈L,i<xs.length)→A4 (L.map fun i=>xs.getD i .non) (L.map fun i=>its.getD i Value.none)
 |[],_=>.nil
 |i::L,h=>by
  have hi:=h i List.mem_cons_self
  obtain ⟨v,hv,r⟩:=rv.get (List.getElem?_eq_getElem hi)
  rw [List.map_cons,List.map_cons]
  refine .cons ?_ (On rv fun j hj=>h j (List.mem_cons_of_mem _ hj))
  rw [List.getD_eq_getElem?_getD,List.getD_eq_getElem?_getD,hv,List.getElem?_eq_getElem hi]
  exact r
theorem Aci {v:Str}{e:Expr}{ta:TA}{p p1 p2 p3 p4 kp pos:Pos}{k:Nat}(tf:Zg X.K X.mg X.base X.env.code P)(hr:B7 (k+2) X.A)(hg:Gl X "sorted")(hm:X.mg "sorted"=none)(ha:PA X [e] ta)(hd:(v==("__debug__":Str))=false:=by decide)
  (hst:starEach [e] X.env=[(false,eval e X.env)]:=by rfl) (hb:∀(nm ql:Str) (pm cd ct:Value) (a:Addr),bindArgs (PySem.W.kla_fn nm ql (Qz v p4) (Ob v p1 p2 p3) (K7 v) [] pm cd ct) ⟨[.ref a],[]⟩=pure [(v,.ref a)]:=by intros;rfl) :
  PE X (.Call (.Name "sorted" p) [e] [⟨some "key",.Lambda (Qz v p4) (Ob v p1 p2 p3) (K7 v) lp,kp⟩] pos) (tCB (Agj X.K P lp (X.env.qual++"<lambda>")) ta):=by
 intro pins s σ H Q I h
 refine wpAny_Call_Name_kw (E6 I hg hm Kv ?_)
 refine callWith_kw (thn (ha pos pins s σ H _ I h) fun us s1 ⟨vs,H1,I1,r1,q1⟩=>?_) (by rw [hst];rfl) (by rw [hst];rfl)
 obtain ⟨l,xs,key,ex,hq,hl,ht,hT,q⟩:=q1
 subst ex
 obtain ⟨u,rfl,ru⟩:=r1.one
 cases (show u=Value.ref l from ru)
 refine kws_cons ?_
 refine Aad (v:=v) (p1:=p1) (p2:=p2) (p3:=p3) (p4:=p4) tf I1 hT fun f c H2 s2 pm ctv I2 k2 hT2 hf hcd=>?_
 refine kws_nil ?_
 show wpAny (model X.prog X.w) X.A (call (.builtin "sorted") [.ref l] [(Str.ofString "key",.ref f)]) _ _ _
 obtain ⟨ps,eP,_⟩:=hT
 have hq2:Ay X.K H2 l xs:=by
  rcases hq with (h|⟨o,h⟩)|h
  ·exact .inl (.inl (k2 _ _ (fun z=>by rw [z,eP] at h;cases h) h))
  ·exact .inl (.inr ⟨o,k2 _ _ (fun z=>by rw [z,eP] at h;cases h) h⟩)
  ·exact .inr h
 obtain ⟨its,rv,⟨oL,nL,eL,cL,dL,xL⟩,hz⟩:=I2.list hq2
 have hlen:its.length=xs.length:=rv.length.symm
 refine Adh (key:=key) (vs:=its) ⟨oL,eL,cL,nL,xL⟩ (by omega) (fun i v' h1 t1 hv k1 Q' hQ=>?_) fun D h' t n pp hD st k' hd'=>?_
 ·have hi:i<xs.length:=by
   rw [←hlen]
   exact (List.getElem?_eq_some_iff.mp hv).1
  obtain ⟨a,ys,e1,e2⟩:=ht i _ (List.getElem?_eq_getElem hi)
  have g:=rv.get (List.getElem?_eq_getElem hi)
  rw [e1] at g
  obtain ⟨u',hu,ru'⟩:=g
  rw [hv] at hu
  cases hu
  cases (show v'=Value.ref a from ru')
  have e3:=k2 _ _ (fun z=>by rw [z,eP] at e2;cases e2) e2
  obtain ⟨_,tl,rt,ob,ho,r2⟩:Bb X.prog X.w H2 s2.heap a (.tup (.int (key i)::ys)):=I2.hok a _ e3
  cases rt with
  |cons r3 r4=>
   obtain ⟨tk,rfl⟩:=r3
   refine Abu (s:={ s2 with heap:=h1,toks:=t1 }) (hr.in1.in1.depth) (k1 _ _ hf) (Qq hcd fun o x=>k1 _ _ x) (I2.nolimit.keeps k1) hd (hb _ _ _ _ _ _) (l:=Value.int (key i) tk::_) ⟨ob,k1 _ _ ho,r2⟩ rfl fun h2 t2 k3=>hQ h2 t2 tk k3
 ·have hn2:H2 D=none:=I2.hok.fresh hD
  have hn1:H1 D=none:=by
   cases c:H1 D with
   |none=>rfl
   | some o=>
    by_cases z:D=P
    ·obtain ⟨ps2,e2,_⟩:=hT2
     rw [z,e2] at hn2
     cases hn2
    ·rw [k2 _ _ z c] at hn2
     cases hn2
  have I3:=I2.laid (t':=t) (h':=h') (a:=D) (o:=.lst (pp.map fun i=>xs.getD i .non)) k' hD ⟨by rw [List.length_map,st.1,hlen];exact hz,Gk its pp,n,On rv fun i hi=>by rw [←hlen];exact st.2.1 i hi,hd'⟩
  refine ⟨.ref D,_,I3,rfl,q D _ pp (fun b o nb x=>?_) hn1 Ad (hT2.up fun b o x=>?_) (by rw [←hlen];exact st)⟩
  ·have x2:=k2 b o nb x
   rw [Ak (Bh x2 hn2)]
   exact x2
  ·rw [Ak (Bh x hn2)]
   exact x
end
def Pt (K:PySem.W.Frag)(x:Str):Addr:=match PySem.W.tabIn K x with
 |some (_,P)=>P
 |none=>0
structure Ags (K:PySem.W.Frag)(mg:Str→Option Value)(base:Heap)(x:Str):Prop where
 tb:∃(f:Addr) (oc:Value) (od:Option Addr) (fd:FuncData) (sl:Array (Option Value)) (c:Addr),mg x=some (.ref f)∧K.lookup f=some ⟨oc,od,.func fd,sl⟩∧fd.code=.ref c∧codeHdIn K c (Pt K x)=true
 bm:BmB mg base
theorem Ahk {K:PySem.W.Frag}{x:Str}{f c P:Addr}{oc cl:Value}{od cd:Option Addr}{fd:FuncData}{sl cs:Array (Option Value)}{vs:Array Value}(h1:PySem.W.nsIn K mainGlobals x=some (some (.ref f)))(h2:K.lookup f=some ⟨oc,od,.func fd,sl⟩)(h3:fd.code=.ref c)(h4:K.lookup c=some ⟨cl,cd,.fields vs,cs⟩)(h5:(vs[11]?:Option Value)=some (.ref P)):PySem.W.tabIn K x=some (c,P):=by
 unfold PySem.W.tabIn
 rw [h1]
 dsimp only
 rw [h2]
 dsimp only
 rw [h3]
 dsimp only
 rw [h4]
 dsimp only
 rw [h5]
theorem Vw {K:PySem.W.Frag}{x:Str}{c P:Addr}(h:PySem.W.tabIn K x=some (c,P)):Pt K x=P:=by
 unfold Pt
 rw [h]
section
variable {P:Program}{w:World}{K:PySem.W.Frag}{mg:Str→Option Value}{base:Heap}
theorem B8.calT {x:Str}{st:Stmt}{N ps:List Str}{k:Nat}{sp:Sp}(d:B8 K mg x st ps)(tk:Ags K mg base x)(S:Al N ps (Af st))(len:∀vs H Q E,sp vs H Q E→vs.length=ps.length)
  (hbody:∀(f:Addr) (cdv:Value) (A:Around) (outer:List Env) (s:Shared) (H:Hp) (vs:List V) (Q:VK) (E:XK),Zg K mg base cdv (Pt K x)→B7 k (A.deeper (envOfC x (Af st) s.heap.objs.size f cdv))→sp vs H Q E →
   ∃t,Mg (Ht (M4 P w) P w K mg base N x (Af st) f cdv A outer s H E).nox (Bz st) t∧t { nx:=fun _ H'=>Q .non H',rt:=Q } (Gg N vs) H):Bm P w K mg base x ps (k+1) sp:=by
 obtain ⟨f,fd,F,hm,hb⟩:=d.ex
 obtain ⟨oc,od,kV,doc,pm,an,cdv,ct,osl,rfl,lk,hcd⟩:=F.ex
 obtain ⟨f',oc',od',fd',sl',c,m1,m2,m3,m4⟩:=tk.tb
 rw [hm] at m1
 cases m1
 rw [lk] at m2
 cases m2
 have tf:Zg K mg base cdv (Pt K x):=⟨⟨c,m3,m4⟩,tk.bm⟩
 exact ⟨f,_,hm,F.kp,hb,Acd lk hcd S len fun A outer s H vs Q E hr hsp=>by
  obtain ⟨t,h,q⟩:=hbody f cdv A outer s H vs Q E tf hr hsp
  exact ⟨t,h.nox,q⟩,oc,od,osl,lk⟩
end
def Aby (T:Addr)(H:Hp):Prop:=H T=some (.tbl #[])∧∀b,b≠T→H b=none∨∃o xs,H b=some (.frz o (.lst xs))
theorem Xp {P:Program}{w:World}{K:PySem.W.Frag}{mg mb:Str→Option Value}{CX:Y3}{k:Nat}{fa a cc T:Addr}{fd:FuncData}{x:Str}{sp:Sp}{t:Shared}{vs:List Value}{ns:List Int}
  (KX:K.In t.heap) (glob:t.heap.Ns mainGlobals mg) (blt:t.heap.Ns builtinsNs mb) (boot:∀x:Str,x≠"__name__"→mb x=bootBuiltins x) (lim:t.heap.NoLimit) (gens:t.gens=#[])
  (ca:t.heap.get? a=some { cls:=.type "list",data:=.seq vs.toArray }) (ia:IntsAre vs ns) (short:ns.length≤sizeLine) (room:B7 k callerA)
  (C:CodeHd t.heap cc T) (eT:t.heap.get? T=some (tabObj #[])) (kT:K.lookup T=none)
  (bmT:BmB mg t.heap) (F:∀base:Heap,K.In base→base.Ns mainGlobals mg→BmB mg base→He P w K mg base CX k fa fd [x] sp) (bind:∀(s:Shared) (u:Value),BindsTo s fd ⟨[u],[]⟩ [(x,u)])
  (want:∀H:Hp,Aby T H→Ay K H a (ns.map V.int)→sp [.ref a] H (fun v _=>v=.bl true) fun _ _ _=>False)
  (fly:∀H e s',CX [] H t (fun _ _ _=>False) e s'→False) :
  codeAny (model P w) callerA (.call (.ref fa) ⟨[.ref a],[]⟩) (fun r z=>r=.ok (.ret (.bool true))∧OldK t.heap z.heap∧z.os=t.os∧AllBare z.gens) t:=by
 have aT:a≠T:=fun z=>by
  rw [z,eT] at ca
  cases ca
 have core:∀H:Hp,Aby T H→Ay K H a (ns.map V.int)→Hl P w H t.heap→(∀b,H b≠none→b=a∨b=T)→(H a≠none→K.lookup a=none) →
   codeAny (model P w) callerA (.call (.ref fa) ⟨[.ref a],[]⟩) (fun r z=>r=.ok (.ret (.bool true))∧OldK t.heap z.heap∧z.os=t.os∧AllBare z.gens) t:=by
  intro H only sq hok two notK
  have nodict:∀{b:Addr} {o:Obj} {es:Array DictEntry} {ep:Nat},t.heap.get? b=some o→o.data=.dict es ep→H b=none:=fun {b o es ep} e d=>by
   cases c:H b with
   |none=>rfl
   | some u=>
    rcases two b (by rw [c];simp) with z|z
    ·subst z
     rw [ca] at e
     cases e
     cases d
    ·subst z
     rw [eT] at e
     cases e
     cases d
  have nsB:∀{b:Addr} {m:Str→Option Value},t.heap.Ns b m→(Qc t.heap H).Ns b m:=fun ⟨o,es,ep,e,d,r⟩=>⟨o,es,ep,Na e (nodict e d),d,r⟩
  have kB:K.In (Qc t.heap H):=fun b o e=>Na (KX b o e) (by
   cases c:H b with
   |none=>rfl
   | some u=>
    rcases two b (by rw [c];simp) with z|z
    ·subst z
     rw [notK (by rw [c];simp)] at e
     cases e
    ·subst z
     rw [kT] at e
     cases e)
  have md:Mod K mg (Qc t.heap H):=⟨kB,nsB glob,⟨mb,nsB blt,boot⟩,let ⟨mc,y1,y2⟩:=lim;⟨mc,nsB y1,y2⟩⟩
  have e0:Vc P w K mg (Qc t.heap H) callerA [] t H:=⟨rfl,md,fun b o e=>Acl e,Nat.le_of_eq (X6 _ _),trivial,fun b hb=>absurd (show b∈([]:List Addr) from hb) (by simp),hok,.of_eq gens⟩
  have bmB:BmB mg (Qc t.heap H):=by
   obtain ⟨bm,ob,h1,h2,h3,h4,h5,h6⟩:=bmT
   refine ⟨bm,ob,h1,h2,Na h3 ?_,h4,h5,h6⟩
   cases c:H bm with
   |none=>rfl
   | some u=>
    rcases two bm (by rw [c];simp) with z|z
    ·subst z
     rw [ca] at h3
     cases h3
     cases h6
    ·subst z
     rw [eT] at h3
     cases h3
     cases h6
  refine codeAny_mono ((F _ kB (nsB glob) bmB).run callerA [] t H ⟨[.ref a],[]⟩ [.ref a] [.ref a] _ _ room e0 (bind t (.ref a)) (.cons rfl .nil) (want H only sq)) fun r z y=>?_
  cases r with
  |error e=>exact (fly H e z y).elim
  | ok fl=>
   cases fl with
   |next=>exact y.elim
   |brk=>exact y.elim
   |cont=>exact y.elim
   | ret u=>
    obtain ⟨v,H',os,bare,un,hok',rv,yes⟩:=y
    obtain rfl:v=.bl true:=yes
    obtain rfl:u=Value.bool true:=rv
    obtain ⟨more,em⟩:=un.tbls T #[] only.1
    have zT:z.heap.get? T=some (tabObj (#[]++more)):=hok' T _ em
    have kp:∀b o,b≠T→t.heap.get? b=some o→z.heap.get? b=some o:=fun b o n e=>by
     rcases only.2 b n with c|⟨ob,xs,c⟩
     ·exact un.keep b o e c (fun q=>absurd (show b∈([]:List Addr) from q) (by simp)) (by simp)
     ·obtain ⟨g1,_⟩:=hok b _ c
      obtain ⟨g2,_⟩:=hok' b _ (un.frzs b ob _ c)
      rw [e] at g1
      cases g1
      exact g2
    refine ⟨rfl,⟨fun b o e=>?_,fun b o e=>?_⟩,os,bare⟩
    ·by_cases n:b=T
     ·subst n
      rw [eT] at e
      cases e
      exact .inr (.inl ⟨(C.tab eT).isCodeTable,rfl,#[],more,rfl,zT⟩)
     ·exact .inl (kp b o n e)
    ·by_cases n:b=T
     ·exact ⟨_,n▸zT⟩
     ·exact ⟨o,kp b o n e⟩
 have rv:=Ot ia
 have ln:=ia.length
 cases hk:K.lookup a with
 | some o=>
  have e:=KX a o hk
  rw [ca] at e
  cases e
  refine core (upd (fun _=>none) T (.tbl #[])) ⟨Ad,fun b n=>.inl (Ak n)⟩ (.inr ⟨_,vs.toArray,_,hk,rfl,rfl,rfl,by rw [List.size_toArray,ln];exact short,by simpa using rv⟩) (fun b u z=>?_) (fun b z=>?_) fun z=>absurd (Ak aT) z
  ·by_cases n:b=T
   ·subst n
    rw [Ad] at z
    cases z
    exact eT
   ·rw [Ak n] at z
    cases z
  ·by_cases n:b=T
   ·exact .inr n
   ·exact absurd (Ak n) z
 | none=>
  refine core (upd (upd (fun _=>none) a (.frz { cls:=.type "list",data:=.seq vs.toArray } (.lst (ns.map V.int)))) T (.tbl #[])) ⟨Ad,fun b n=>?_⟩ (.inl (.inr ⟨{ cls:=.type "list",data:=.seq vs.toArray },?_⟩)) (fun b u z=>?_) (fun b z=>?_) fun _=>hk
  ·rw [Ak n]
   by_cases n2:b=a
   ·rw [n2,Ad]
    exact .inr ⟨_,_,rfl⟩
   ·exact .inl (Ak n2)
  ·rw [Ak aT,Ad]
  ·by_cases n:b=T
   ·subst n
    rw [Ad] at z
    cases z
    exact eT
   ·rw [Ak n] at z
    by_cases n2:b=a
    ·subst n2
     rw [Ad] at z
     cases z
     exact ⟨ca,by rw [List.length_map];exact short,vs,_,rv,ca⟩
    ·rw [Ak n2] at z
     cases z
  ·by_cases n:b=T
   ·exact .inr n
   ·by_cases n2:b=a
    ·exact .inl n2
    ·exact absurd ((Ak n).trans (Ak n2)) z
end Lw
end
section
set_option autoImplicit false
namespace Lw
open PySem PySem.Spec PyProof.Rows L2 PySem.W
def Sz (x:Str)(K:PySem.W.Frag)(ns:List Int):Sp:=fun vs H Q _=>match vs with
 |[.ref a]=>Ay K H a (ns.map V.int)∧ns.length≤63∧Rm ns∧H (Pt K x)=some (.tbl #[])∧∀H',Q (.bl true) H'
 |_=>False
def G8 (x:Str)(K:PySem.W.Frag):Sp:=fun vs H Q _=>∃(ns:List Int) (a:Addr),vs=[.ref a]∧Ay K H a (ns.map V.int)∧ns.length≤63∧Rm ns∧H (Pt K x)=some (.tbl #[])∧∀H',Q (.bl true) H'
section
variable {P:Program}{w:World}{K:PySem.W.Frag}{mg:Str→Option Value}{base:Heap}
theorem Ab8 {x:Str}{k:Nat}{st:Stmt}{f:Addr}{fd:FuncData}(F:Fun K "law" "law" st f fd)(hm:mg "law"=some (.ref f))(C:∀ns,Bm P w K mg base "law" ["_law_script"] k (Sz x K ns)):He P w K mg base (M4 P w) k f fd ["_law_script"] (G8 x K):=by
 refine ⟨fun vs H Q E h=>?_,fun A outer s H args us vs Q E hr he hb hv hs=>?_⟩
 ·obtain ⟨ns,a,rfl,_⟩:=h
  rfl
 ·obtain ⟨ns,a,rfl,h1,h2,h3,h4,h5⟩:=hs
  obtain ⟨f',fd',e1,e2,e3,G,oc',od',osl',lk'⟩:=(C ns).ex
  obtain ⟨oc,od,kV,doc,pm,an,cdv,ct,osl,_,lk,_⟩:=F.ex
  rw [hm] at e1
  cases e1
  rw [lk] at lk'
  cases lk'
  exact G.run A outer s H args us _ Q E hr he hb hv ⟨h1,h2,h3,h4,h5⟩
end
theorem walk_ofBT {l:PySem.W.OpenLaw}{n k:Nat}{q:Program}{loose:List Str}{XP:(Str→Option Value)→Heap→Prop}{YP:World→Heap→Prop}{d:DefRec}{K:Params→PySem.W.Frag}{CX:World→Y3}{sp:World→Sp}{x y:Str}{ts:List Addr}
  (hn:l.most=some n) (hn2:n≤sizeLine) (hdf:d.params.defaults=[]) (hr:B7 k callerA) (hY:∀(w:World) (h:Heap),YP w h→(K w.params).In h)
  (hT:∀(w:World) (h:Heap),YP w h→∀P∈ts,h.get? P=some (tabObj #[]))
  (F:∀(w:World) (mg:Str→Option Value) (fa:Addr) (h:Heap),(K w.params).In h→h.Ns mainGlobals mg→mg d.name=some (.ref fa)→(∃c P,PySem.W.tabIn (K w.params) y=some (c,P)∧codeHdIn (K w.params) c P=true∧(K w.params).lookup P=none∧P∈ts)∧∃fd:FuncData,(∀(s:Shared) (u:Value),BindsTo s fd ⟨[u],[]⟩ [(x,u)])∧∀base:Heap,(K w.params).In base→base.Ns mainGlobals mg→BmB mg base→He l.prog w (K w.params) mg base (CX w) k fa fd [x] (sp w))
  (hsp:∀(w:World) (H:Hp) (a:Addr) (ns:List Int),ns.length≤n→Rm ns→Aby (Pt (K w.params) y) H→Ay (K w.params) H a (ns.map V.int)→sp w [.ref a] H (fun v _=>v=.bl true) fun _ _ _=>False)
  (hCX:∀(w:World) (H:Hp) (s:Shared) (e:Value) (s':Shared),CX w [] H s (fun _ _ _=>False) e s'→False):PySem.W.WalkO q loose XP YP l.row.toRowW d [] (fun f vs=>PySem.call f vs):=by
 refine Q6 hn hdf fun w t₀ t mg mb fa o pm cd doc a vs ns bits G Y x1 x2 x3 x5 y1 y2 y3 x6=>?_
 have KX:=hY w _ Y
 obtain ⟨⟨c,T,tb,hC,kT,mT⟩,fd,bd,ok⟩:=F w mg fa _ KX G.T.g x5
 have C:CodeHd t.heap c T:=codeHd_of_K KX hC
 have eT:=hT w _ Y T mT
 exact Xp KX G.T.g G.T.b G.T.builtins G.T.nolimit x6 y1 y2 (Nat.le_trans y3 hn2) hr C eT kT G.T.bmain ok bd (fun H only sq=>hsp w H a ns y3 bits (by rw [Vw tb];exact only) sq) fun H e z=>hCX w H t e z
end Lw
end
section
namespace Lw
open PySem PySem.Spec PyProof.Rows L2
section
variable {X:Cx}
theorem A4.eraseIdx':∀{xs:List V} {us:List Value} (k:Nat),A4 xs us→A4 (xs.eraseIdx k) (us.eraseIdx k)
 |_,_,_,.nil=>.nil
 |_,_,0,.cons _ t=>t
 |_,_,k+1,.cons r t=>.cons r (A4.eraseIdx' k t)
theorem P4 {α β:Type}(f:α→β):∀(l:List α) (k:Nat),(l.map f).eraseIdx k=(l.eraseIdx k).map f
 |[],_=>rfl
 |_::_,0=>rfl
 |a::l,k+1=>by
  show f a::(l.map f).eraseIdx k=f a::(l.eraseIdx k).map f
  rw [P4 f l k]
end
end Lw
end
section
namespace Lw
open PySem PySem.Spec PyProof.Rows L2
theorem u1 {n m:Nat}(h:n+64<m):n+1<m:=by omega
structure TL (kvs:List (B4×V))(ks:List Str)(f:Str→Int):Prop where
 key:kvs.map (·.1)=ks.map Sum.inr
 nd:ks.Nodup
 val:∀x,B5 kvs (Sum.inr x)=if x∈ks then some (.int (f x)) else none
 out:∀x,x∉ks→f x=0
theorem Ry {kvs:List (B4×V)}{ks:List Str}(h:kvs.map (·.1)=ks.map Sum.inr)(x:Str)(v:V):(Cu kvs (Sum.inr x) v).map (·.1)=(dd ks x).map Sum.inr:=by
 have hany:(kvs.any fun kv=>decide (kv.1=Sum.inr x))=decide (x∈ks):=by
  have e:(kvs.any fun kv=>decide (kv.1=Sum.inr x))=(kvs.map (·.1)).any fun k=>decide (k=Sum.inr x):=by rw [List.any_map];rfl
  rw [e,h,List.any_map]
  by_cases hx:x∈ks
  ·rw [decide_eq_true hx,List.any_eq_true]
   exact ⟨x,hx,by simp⟩
  ·rw [decide_eq_false hx,List.any_eq_false]
   intro y hy c
   have:y=x:=by simpa using c
   exact hx (this▸hy)
 unfold Cu dd
 rw [hany]
 by_cases hx:x∈ks
 ·rw [decide_eq_true hx,if_pos rfl,if_pos hx,List.map_map,←h]
  refine List.map_congr_left fun kv _=>?_
  show (if kv.1=Sum.inr x then (kv.1,v) else kv).1=kv.1
  split<;>rfl
 ·rw [decide_eq_false hx,if_neg (by decide),if_neg hx,List.map_append,h,List.map_append]
  rfl
end Lw
end
section
namespace Lw
open PySem PySem.Spec PyProof.Rows L2
section
variable {prog:Program}{w:World}{A:Around}{E:Value→Shared→Prop}{s:Shared}
theorem Acb {d:Addr}{vs:List (B4×Value)}{ep:Nat}{Q:List Value→Shared→Prop}(hh:A.handled=none)(hok:s.heap.DictAt (A9 prog w) d vs ep)(lo:(d==sysModules)=false)(hn:vs.length≤sizeLine)
  (q:∀xs g tk,(∀b o,s.heap.get? b=some o→g.get? b=some o)→s.heap.objs.size<g.objs.size→xs.length=vs.length→(∀(j:Nat) v,xs[j]? =some v→∃k x,vs[j]? =some (k,x)∧(A9 prog w).is k v=true)→Q xs { s with heap:=g,toks:=tk }) :
  wpAny (model prog w) A (collect (.ref d)) Q E s:=by
 have la:d<s.heap.objs.size:=hok.lt_size
 unfold collect
 refine wpAny_bind (wpAny_runValue (codeAny_builtin PySem.F.entry_proto_collect ?_))
 rw [Around.under_plainId PySem.F.plain_proto_collect _]
 show wpAny _ A.in1 (newList [] >>= fun l=>again (.builtin "list.__iadd__" ⟨[l,.ref d],[]⟩)) _ _ s
 refine wpAny_bind (wpAny_newObj_type (wpAny_pure ⟨plainId_quiet PySem.F.plain_list_iadd _,codeAny_builtin PySem.F.entry_list_iadd ?_⟩))
 rw [Around.under_plainId PySem.F.plain_list_iadd _]
 show wpAny _ A.in1 (Builtin.List.listExtendWith (.ref s.heap.objs.size) (.ref d) (.ref s.heap.objs.size)) _ _ _
 have hS:(s.heap.push { cls:=.type "list",data:=.seq ([]:List Value).toArray }).get? s.heap.objs.size=some { cls:=.type "list",data:=.seq #[] 0 }:=Heap.get?_push_size _ rfl
 refine PySem.W.kdl_extend (R:=wants (fun v s'=>wpAny (model prog w) A (match v with|Value.ref a=>(do let o ←load a;match o.data with|.seq xs _=>pure xs.toList|_=>unsupported "internal:collect")|_=>unsupported "internal:collect") Q E s') E) (s:={ s with heap:=s.heap.push { cls:=.type "list",data:=.seq ([]:List Value).toArray } }) (PySem.W.kdl_dict lo) hh (hok.push _) s.heap.objs.size (Nat.ne_of_gt la) (Nat.ne_of_gt la) (.ref s.heap.objs.size) 0 hS (fun h' tk acc c hk hS' it=>?_) hn
 show wpAny _ A (load s.heap.objs.size >>= _) _ _ _
 refine wpAny_bind (wpAny_load hS' (wpAny_pure (q acc.toList h' tk (fun b o e=>hk b o (Nat.ne_of_lt (Heap.lt_size e)) (Heap.get?_push_of_some _ e)) (Heap.lt_size hS') (by rw [Array.length_toList];exact it.1) fun j v hv=>it.2 j v (by rw [←Array.getElem?_toList];exact hv))))
theorem K5:∀{names:List Str} {us:List Value},us.length=names.length→(∀(j:Nat) v,us[j]? =some v→∃x t,names[j]? =some x∧v=Value.str x t)→StrsAre us names
 |[],[],_,_=>.nil
 |[],_::_,h,_=>by simp at h
 |_::_,[],h,_=>by simp at h
 |x::names,u::us,h,a=>by
  obtain ⟨y,t,e1,e2⟩:=a 0 u rfl
  simp at e1
  subst e1 e2
  refine .cons _ t (K5 (by simpa using h) fun j v hv=>?_)
  have:=a (j+1) v (by simpa using hv)
  simpa using this
end
section
variable {X:Cx}
def Agm:List V→Hp→VK→Prop:=fun xs H Q=>match xs with
 |[.ref d]=>∃(kvs:List (B4×V)) (names:List Str),H d=some (.dK kvs)∧kvs.map (·.1)=names.map Sum.inr∧names.length<64∧names.Nodup∧∀D,H D=none→Q (.ref D) (upd H D (.lst ((Oh names).map V.str)))
 |_=>False
theorem Aeq (hc:X.calm=true:=by rfl):Ed X (.builtin "sorted") Agm:=by
 intro pins s σ H xs us Q I r h
 match xs,h with
 | [.ref d],⟨kvs,names,e,hk,h64,nd,q⟩=>
  obtain ⟨u,rfl,ru⟩:=r.one
  cases (show u=Value.ref d from ru)
  obtain ⟨z,lo,vs,rel,dd⟩:=W5 I.hok e
  have kk:=rel.keys
  have kl:=rel.length
  obtain ⟨o,es,ep,r1⟩:=dd
  have at':s.heap.DictAt (A9 X.prog X.w) d vs ep:=⟨o,es,r1⟩
  have nl:kvs.length=names.length:=by
   have:=congrArg List.length hk
   simpa using this
  have hh:=I.ok.hd hc
  refine Calls.call_function_entry kind_sorted plain_sorted entry_sorted (args_sorted1 _) ?_
  unfold Builtin.«sorted»
  refine wpAny_bind (m:=checkCount "sorted" 1 1 _) (wpAny_pure (wpAny_bind (Acb (by simp [hh]) at' lo (by omega) fun xs g tk keep lg hl hg=>?_)))
  have sa:StrsAre xs names:=K5 (by omega) fun j v hv=>by
   obtain ⟨k,x,h1,h2⟩:=hg j v hv
   have h3:(vs.map (·.1))[j]? =some k:=by rw [List.getElem?_map,h1];rfl
   rw [←kk,hk,List.getElem?_map] at h3
   cases hn:names[j]? with
   |none=>
    rw [hn] at h3
    cases h3
   | some y=>
    rw [hn] at h3
    cases h3
    rcases Bj (show K0 (Sum.inr y) v=true from h2) with ⟨i,t,e1,_⟩|⟨y',t,e1,e2⟩
    ·cases e1
    ·cases e1
     exact ⟨y,t,rfl,e2⟩
  refine wpAny_bind (wpAny_newList ?_ (by omega))
  have hoL:(g.push (seqObj "list" xs.toArray 0)).get? g.objs.size=some (seqObj "list" xs.toArray 0):=Heap.get?_push_size _ rfl
  refine wpAny_bind (wpAny_holding (wpAny_call_entry slot_list_sort ⟨_,hoL,rfl⟩ entry_list_sort (list_sort_treeK strKind_oneLt hoL sa.keysOf (fun v1 v2 r e=>keyKind_strs (by rw [←e];exact sa)) (by omega) fun st' a1 a2=>⟨_,rfl,wpAny_pure ⟨_,rfl,?_⟩⟩) (args_list_sort _)))
  obtain ⟨ys,b1,b2,b3⟩:=sorted_out_str sa a1 a2
  obtain ⟨n,hn⟩:=sortedHeap_at (out:=(arrOf st').map (·.2)) hoL
  have ey:ys=Oh names:=Hb (Jq (O2 b3) (b2.nodup_iff.mpr nd)) (Cn _) fun x=>by rw [b2.mem_iff,Ev]
  subst ey
  have keep2:∀b ob,s.heap.get? b=some ob→(sortedHeap (g.push (seqObj "list" xs.toArray 0)) g.objs.size xs ((arrOf st').map (·.2))).get? b=some ob:=fun b ob e=>by
   have hb:=Heap.lt_size (keep b ob e)
   rw [sortedHeap_old (Nat.ne_of_lt hb) (by rw [Heap.size_push];exact Nat.lt_succ_of_lt hb)]
   exact Heap.get?_push_of_some _ (keep b ob e)
  have I2:=I.laid (t':=tk) (h':=sortedHeap (g.push (seqObj "list" xs.toArray 0)) g.objs.size xs ((arrOf st').map (·.2))) (a:=g.objs.size) (o:=.lst ((Oh names).map V.str)) keep2 (Nat.le_of_lt lg) ⟨by rw [List.length_map,b2.length_eq];omega,((arrOf st').map (·.2)).toList,n,Nh b1,by rw [hn]⟩
  exact ⟨.ref g.objs.size,_,I2,rfl,q _ (I.hok.fresh (Nat.le_of_lt lg))⟩
end
inductive Rch (gs:List Gm)(n:Str):Str→Prop where
 |here:Rch gs n n
 |step {x y:Str}:Rch gs n x→y∈tkr x gs→Rch gs n y
end Lw
end
namespace PySem
open Sem (wp)
namespace F
end F
end PySem
section
namespace Lw
open PySem PySem.Spec PyProof.Rows L2
abbrev Al0 (h:Heap)(z TI TO a:Addr)(b:Bool):Prop:=
 h.get? z=some { cls:=.type "zip",data:=.fields #[rawInt a,.bool b,.bool false,.ref TI,.ref TO] }
section
variable {prog:Program}{w:World}{A:Around}{E:Value→Shared→Prop}{s:Shared}
section
variable {K:Type}[DecidableEq K]{knd:KeyKind prog w K}
structure Dz (knd:KeyKind prog w K)(k1 k2:Bool)(z TI TO i1 i2 l1 l2 D:Addr)(xs ys:Array Value)(kvs:List (K×Value))(h0:Heap)(i:Nat)(h:Heap):Prop where
 dd:h.DictOf knd D (kvs.take i)
 ia:Sc k1 h i1 l1 i
 ib:Sc k2 h i2 l2 i
 sx:N9 k1 h l1 xs
 sy:N9 k2 h l2 ys
 ti:IsPair h TI (.ref i1) (.ref i2)
 zz:(i=0∧IsZip h z TI TO .none∧∃u v,IsPair h TO u v)∨∃p q oa,Al0 h z TI TO p q∧h.get? p=some oa∧p≠z∧p≠i1∧p≠i2∧p≠D
 old:∀c o,c≠z→c≠TO→c≠i1→c≠i2→c≠D→h0.get? c=some o→h.get? c=some o
end
end
section
variable {X:Cx}
end
end Lw
end
section
namespace Lw
open PySem PySem.Spec PyProof.Rows L2
section
variable {prog:Program}{w:World}{A:Around}{E:Value→Shared→Prop}{s:Shared}
variable {K:Type}[DecidableEq K]{knd:KeyKind prog w K}
structure Dp (knd:KeyKind prog w K)(I l D:Addr)(xs:Array Value)(kvs:List (K×Value))(h0:Heap)(i:Nat)(h:Heap):Prop where
 dd:h.DictOf knd D (kvs.take i)
 st:h.IsListIter I l i∧h.IsList l xs
 old:∀c o,c≠I→c≠D→h0.get? c=some o→h.get? c=some o
end
section
variable {X:Cx}
end
end Lw
end
section
namespace Lw
open PySem PySem.Spec PyProof.Rows L2
section
variable {X:Cx}
theorem Ad8 {pins:List (Addr×Obj)}{σ:L2.St}{H:Hp}{s:Shared}{a:Addr}{kvs:List (B4×V)}{o:Obj}(I:Ar X pins σ H s)(ha:H a=some (.dK kvs))(ho:s.heap.get? a=some o):Ar X pins σ (upd H a (.frz o (.dK kvs))) s:=by
 have old:∀b u,H b=some u→b≠a→upd H a (.frz o (.dK kvs)) b=some u:=fun b u e n=>by rw [Ak n];exact e
 refine I.step (g':=s.gens) (d':=s.drawn) (t':=s.toks) (h':=s.heap) (ch:=[]) (fun _ z=>nomatch z) (fun b o _ _ _ e _=>e) (fun b o _ _ _ e _=>⟨o.slots,e⟩) (fun b u _ e n=>?_) (fun b o _ e=>⟨o,e⟩) (fun b xs e=>old b _ e ?_) (fun b ob u e=>old b _ e ?_)
  (fun b ps e=>⟨#[],by rw [old b _ e (fun z=>by rw [z,ha] at e;cases e)];simp⟩) (fun m hm=>hm) (fun b u e=>?_) I.bare
 ·rw [Ak (fun z=>by rw [z,ha] at n;cases n)]
  exact n
 ·intro z
  rw [z,ha] at e
  cases e
 ·intro z
  rw [z,ha] at e
  cases e
 ·have ho':∀b c,H b=some (.own c)→upd H a (.frz o (.dK kvs)) b=some (.own c):=fun b c e=>old b _ e fun z=>by rw [z,ha] at e;cases e
  have ht':∀b xs,H b=some (.tup xs)→upd H a (.frz o (.dK kvs)) b=some (.tup xs):=fun b xs e=>old b _ e fun z=>by rw [z,ha] at e;cases e
  by_cases hb:b=a
  ·subst hb
   rw [Ad] at e
   cases e
   exact ⟨ho,(I.hok b _ ha).stay (fun c v _ q=>q) (fun c q=>ho' c _ q) ht'⟩
  ·rw [Ak hb] at e
   exact (I.hok b u e).stay (fun c v _ q=>q) (fun c q=>ho' c _ q) ht'
end
end Lw
end
section
namespace Lw
open PySem PySem.Spec PyProof.Rows L2
theorem Ad9 {kvs:List (B4×V)}{vs:List (B4×Value)}(r:KV kvs vs):A4 (kvs.map (·.2)) (vs.map (·.2)):=by
 unfold KV at r
 induction r with
 |nil=>exact .nil
 |cons h _ ih=>exact .cons h.2 ih
def Ahb (td:TE):TE:=fun σ H Q=>td σ H fun x H1=>∃(d:Addr) (kvs:List (B4×V)),x=.ref d∧Rd H1 d (.dK kvs)∧∀D H',Ah H1 H'→H1 D=none→H' D=some (.lst (kvs.map (·.2)))→Q (.ref D) H'
section
variable {X:Cx}
theorem Sw {o:Expr}{td:TE}{p apos cpos pos:Pos}(hg:Gl X "list")(hm:X.mg "list"=none)(ho:PE X o td)(hcalm:X.calm=true)
  (hbase:attributeBase o "values" X.env (eval o X.env)=eval o X.env:=by rfl) (hline:(apos.endLine==cpos.line)=true:=by rfl) :
  PE X (.Call (.Name "list" p) [.Call (.Attribute o "values" apos) [] [] cpos] [] pos) (Ahb td):=by
 intro pins s σ H Q I h
 refine Call_ (E6 I hg hm PyProof.Rows.boot_list (PyProof.Rows.callWith_type1 ?_))
 refine Calls.spliced_cons ?_
 refine wpAny_Call_method0_late hbase hline (thn (ho pins s σ H _ I h) fun u s1 ⟨x,H1,I1,rx,d,kvs,ex,hd,q⟩=>?_)
 subst ex
 obtain rfl:u=Value.ref d:=rx
 obtain ⟨t1,t2,lo⟩:=U5 I1 (.inl ⟨kvs,hd⟩)
 obtain ⟨z,_,vs,rel,dd⟩:=Lz I1.hok hd
 refine ⟨"dict","dict.values",PySem.F.plainAttrs_dict,PySem.F.slot_dict_values,PySem.F.type_dict_values,t1,t2,Calls.callWith_builtin rfl (PySem.evalArgs_none ?_)⟩
 refine call_meetsIn PySem.F.slot_dict_values t1 PySem.F.entry_dict_values (PySem.F.args_dict_values_1 _) (meets_dict_values (A9 X.prog X.w) d lo) ⟨⟨vs,dd⟩,Calls.spliced_nil ?_⟩
 obtain ⟨o',es,ep,r1⟩:=dd
 have at':s1.heap.DictAt (A9 X.prog X.w) d vs ep:=⟨o',es,r1⟩
 have kl:=rel.length
 have sz:(s1.heap.push { cls:=.type "dict_values",data:=.fields #[.ref d] }).objs.size=s1.heap.objs.size+1:=size_push' _ _
 refine PySem.W.kdl_call (s:={ s1 with heap:=s1.heap.push { cls:=.type "dict_values",data:=.fields #[.ref d] } }) (PySem.W.kdl_values (knd:=A9 X.prog X.w) (kvs:=vs) (ep:=ep) (r:=s1.heap.objs.size) (d:=d)) (I1.ok.hd hcalm) ⟨⟨_,Heap.get?_push_size _ rfl,rfl,rfl⟩,at'.push _⟩ (by omega) fun h' tk acc c keep hS it=>?_
 have ea:acc.toList=vs.map (·.2):=PySem.W.kdl_vals_eq acc.toList (by rw [Array.length_toList];exact it.1) fun j v hv=>it.2 j v (by rw [←Array.getElem?_toList];exact hv)
 have hD:H1 (s1.heap.objs.size+1)=none:=I1.hok.fresh (Nat.le_succ _)
 rw [sz] at hS ⊢
 refine ⟨.ref (s1.heap.objs.size+1),_,I1.laid (a:=s1.heap.objs.size+1) (o:=.lst (kvs.map (·.2))) (t':=tk) (fun b ob eb=>keep b ob (Heap.get?_push_of_some _ eb)) (Nat.le_succ _) (show Bb X.prog X.w _ h' _ (.lst (kvs.map (·.2))) from ⟨by rw [List.length_map];exact z,vs.map (·.2),c,Ad9 rel,?_⟩),rfl,q _ _ (Am hD) hD Ad⟩
 rw [hS,←ea]
theorem Z7 {pins:List (Addr×Obj)}{σ:L2.St}{H:Hp}{s:Shared}{a:Addr}{kvs:List (B4×V)}{o:Obj}(I:Ar X pins σ H s)(ha:H a=some (.frz o (.dK kvs)))(h0:∀o u,X.H₀ a≠some (.frz o u)):Ar X pins σ (upd H a (.dK kvs)) s:=by
 have ne:∀{b:Addr},H b=none→b≠a:=fun e z=>by rw [z,ha] at e;cases e
 have old:∀b u,H b=some u→b≠a→upd H a (.dK kvs) b=some u:=fun b u e n=>by rw [Ak n];exact e
 have nn:∀{b:Addr},H b=none→upd H a (.dK kvs) b=none:=fun e=>by rw [Ak (ne e)];exact e
 refine { ok:=I.ok,os:=I.os,bare:=I.bare,base:=?_,loc:=I.loc,cell:=I.cell,free:=nn I.free,freeC:=fun x c e=>nn (I.freeC x c e),pin:=fun p hp=>?_,hok:=fun b u e=>?_,len:=I.len }
 ·refine { keep:=I.base.keep,slot:=I.base.slot,free:=fun b o e n x=>nn (I.base.free b o e n x),there:=I.base.there,tups:=fun b xs e=>old b _ (I.base.tups b xs e) fun z=>?_,frzs:=fun b o u e=>old b _ (I.base.frzs b o u e) fun z=>?_,tbls:=fun b ps e=>?_ }
  ·have:=I.base.tups b xs e
   rw [z,ha] at this
   cases this
  ·exact h0 o u (z▸e)
  ·obtain ⟨more,e'⟩:=I.base.tbls b ps e
   exact ⟨more,old b _ e' fun z=>by rw [z,ha] at e';cases e'⟩
 ·obtain ⟨p1,p2,p3⟩:=I.pin p hp
  exact ⟨p1,nn p2,p3⟩
 ·have ho':∀b c,H b=some (.own c)→upd H a (.dK kvs) b=some (.own c):=fun b c e=>old b _ e fun z=>by rw [z,ha] at e;cases e
  have ht':∀b xs,H b=some (.tup xs)→upd H a (.dK kvs) b=some (.tup xs):=fun b xs e=>old b _ e fun z=>by rw [z,ha] at e;cases e
  by_cases hb:b=a
  ·subst hb
   rw [Ad] at e
   cases e
   have:=(show Bb X.prog X.w H s.heap b (.frz o (.dK kvs)) from I.hok b _ ha)
   exact (show Bb X.prog X.w H s.heap b (.dK kvs) from this.2).stay (fun c v _ q=>q) (fun c q=>ho' c _ q) ht'
  ·rw [Ak hb] at e
   exact (I.hok b u e).stay (fun c v _ q=>q) (fun c q=>ho' c _ q) ht'
def Aiy (H0:Hp)(te:TE):TE:=fun σ H Q=>te σ H fun v H'=>∃a o kvs,H' a=some (.frz o (.dK kvs))∧(∀o u,H0 a≠some (.frz o u))∧Q v (upd H' a (.dK kvs))
theorem Acn {e:Expr}{te:TE}(he:PE X e te):PE X e (Aiy X.H₀ te):=by
 intro pins s σ H Q I h
 refine thn (he pins s σ H _ I h) fun v s1 ⟨x,H1,I1,rx,a,o,kvs,ea,h0,q⟩=>?_
 exact ⟨x,_,Z7 I1 ea h0,rx,q⟩
def Afs (a:Addr)(o:Obj)(ks:List B4):It:=
 ⟨fun i H=>(∃kvs,H a=some (.frz o (.dK kvs))∧kvs.map (·.1)=ks)∧i<ks.length,
  fun i H v H'=>H'=H∧∃x,ks[i]? =some x∧v=kV x,
  fun i H=>(∃kvs,H a=some (.frz o (.dK kvs))∧kvs.map (·.1)=ks)∧ks.length≤i⟩
theorem Uu {P:Program}{w:World}{K:PySem.W.Frag}{tg:Expr}{it a:Addr}{o:Obj}{names:List B4}{es:Array DictEntry}{ep:Nat}(ho:o.data=.dict es ep) :
  Ur P w K tg (Afs a o names) [it] it (fun i h=>h.IsKeyIter it a i names.length ep) where
 mem:=by simp
 obj:=fun i h Z c hc=>by
  have hc:c=it:=by simpa using hc
  subst hc
  obtain ⟨o,e,_,d⟩:=Z
  exact ⟨o,e,fun v z=>by rw [d] at z;cases z⟩
 keep:=fun i h h' Z k=>by
  obtain ⟨o,e,r⟩:=Z
  exact ⟨o,k it (by simp) o e,r⟩
 item:=by
  intro X hP hw hK hc i pins s σ H E I hf Z hg
  subst hP hw hK
  obtain ⟨⟨kvs,e,hk⟩,hi⟩:=hg
  obtain ⟨e0,z,lo,vs,rel,dd⟩:=(show Bb X.prog X.w H s.heap a (.frz o (.dK kvs)) from I.hok a _ e)
  have kk:=rel.keys
  have kl:=rel.length
  have nl:kvs.length=names.length:=by
   have:=congrArg List.length hk
   simpa using this
  obtain ⟨o',es',ep',r0,r1,r2,r3⟩:=dd
  rw [e0] at r0
  cases r0
  rw [ho] at r2
  cases r2
  have at':s.heap.DictAt (A9 X.prog X.w) a vs ep:=⟨o,es,e0,r1,ho,r3⟩
  have vl:vs.length=names.length:=by omega
  have hx:vs[i]? =some (vs[i]'(by omega)):=List.getElem?_eq_getElem (by omega)
  generalize vs[i]'(by omega)=kv at hx
  obtain ⟨k,u⟩:=kv
  have h3:(vs.map (·.1))[i]? =some k:=by rw [List.getElem?_map,hx];rfl
  rw [←kk,hk] at h3
  have hn:names[i]? =some names[i]:=List.getElem?_eq_getElem hi
  have hkn:k=names[i]:=by
   rw [hn] at h3
   exact (Option.some.inj h3).symm
  have Z:s.heap.IsKeyIter it a i vs.length ep:=by rw [vl];exact Z
  refine wpAny_pyNext_dict_item Z at' hx fun key g hkey hit sb=>⟨_,rfl,?_⟩
  refine letGo_keyiter (s':={ s with heap:=g }) hit ?_
  have I1:Ar X pins σ H { s with heap:=g }:=G9 I (t':=s.toks) (fp:=[it]) (fun c o hc e=>sb.extBut c o (fun x=>hc (by simp [x])) e) hf
  rcases Bj (show K0 k key=true from hkey) with ⟨i',t,e1,e2⟩|⟨y',t,e1,e2⟩
  ·refine ⟨.int i',H,I1,⟨t,e2⟩,⟨rfl,_,h3,by rw [e1];rfl⟩,?_,fun b hb=>(hf b hb).1⟩
   rw [←vl]
   exact hit
  ·refine ⟨.str y',H,I1,⟨t,e2⟩,⟨rfl,_,h3,by rw [e1];rfl⟩,?_,fun b hb=>(hf b hb).1⟩
   rw [←vl]
   exact hit
 done:=by
  intro X hP hw hK hc i pins s σ H E I hf Z hg
  subst hP hw hK
  obtain ⟨⟨kvs,e,hk⟩,hi⟩:=hg
  obtain ⟨e0,z,lo,vs,rel,dd⟩:=(show Bb X.prog X.w H s.heap a (.frz o (.dK kvs)) from I.hok a _ e)
  have kl:=rel.length
  have nl:kvs.length=names.length:=by
   have:=congrArg List.length hk
   simpa using this
  obtain ⟨o',es',ep',r0,r1,r2,r3⟩:=dd
  rw [e0] at r0
  cases r0
  rw [ho] at r2
  cases r2
  have at':s.heap.DictAt (A9 X.prog X.w) a vs ep:=⟨o,es,e0,r1,ho,r3⟩
  have vl:vs.length=names.length:=by omega
  have Z:s.heap.IsKeyIter it a i vs.length ep:=by rw [vl];exact Z
  refine wpAny_pyNext_dict_end (I.ok.hd hc) Z at' (List.getElem?_eq_none (by omega)) fun g kp=>⟨rfl,?_⟩
  exact G9 I (t':=s.toks) (fp:=[it]) (fun c o hc e=>kp c o (fun x=>hc (by simp [x])) e) hf
 self:=fun _ _ _ _ _ Z h=>wpAny_pyIter_keyiter Z h
def Afx (te:TE):TI:=fun σ H R=>te σ H fun x H1=>∃a kvs,x=.ref a∧H1 a=some (.dK kvs)∧∀o,R (Afs a o (kvs.map (·.1))) (upd H1 a (.frz o (.dK kvs)))
theorem Abt {tg l:Expr}{te:TE}(hl:PE X l te):PI X tg l (Afx te):=by
 intro pins s σ H R I h
 refine thn (hl pins s σ H _ I h) fun v s1 ⟨x,H1,I1,r1,q1⟩=>?_
 obtain ⟨a,kvs,e,ea,q⟩:=q1
 subst e
 cases r1
 obtain ⟨z,lo,vs,rel,dd⟩:=W5 I1.hok ea
 have kl:=rel.length
 obtain ⟨o,es,ep,r0,r1,r2,r3⟩:=dd
 have I2:=Ad8 I1 ea r0
 have at':s1.heap.DictAt (A9 X.prog X.w) a vs ep:=⟨o,es,r0,r1,r2,r3⟩
 refine wpAny_pyIter_dict lo at' ?_
 refine ⟨s1.heap.objs.size,[s1.heap.objs.size],_,_,_,rfl,I2.kept (t':=s1.toks) fun b o e=>Heap.get?_push_of_some _ e,Uu (a:=a) (names:=kvs.map (·.1)) (ep:=ep) r2,⟨_,Heap.get?_push_size _ rfl,rfl,?_⟩,fun b hb=>?_,q o⟩
 ·show Data.fields _=Data.fields _
  rw [show vs.length=(kvs.map (·.1)).length by rw [List.length_map];omega]
  rfl
 ·have e:b=s1.heap.objs.size:=by simpa using hb
  subst e
  exact I2.fpOk (Nat.le_refl _) (I2.hok.fresh (Nat.le_refl _))
theorem Ub {a:Addr}{o:Obj}{kvs:List (B4×V)}{g:TG}{tc:TT}{te:TE}{k:Nat}{js:List Nat}{σ:L2.St}{H1:Hp}{Q:VK}(R:Hp→B4→V→Prop)(up:∀m y H H',Kt H H'→R H m y→R H' m y)(c:B4→Bool)
  (hz:kvs.length≤1000) (hx:H1 a=some (.frz o (.dK kvs)))
  (hs:∀x H2,x∈kvs.map (·.1)→Ah H1 H2→∀(P:VK) (P':Hp→Prop),(c x=true→∀y H3,Ah H2 H3→R H3 x y→P y H3)→(c x=false→∀H3,Ah H2 H3→P' H3)→g (kV x) (List.replicate k none++capσ js σ) H2 fun σ2 H3=>σ2.drop k=capσ js σ∧tc σ2 H3 fun b H4=>Br b (te σ2 H4 P) (P' H4))
  (hq:∀D H' ys,Ah H1 H'→H1 D=none→H' D=some (.lst ys)→At (R H') ((kvs.map (·.1)).filter c) ys→Q (.ref D) H'):Kh (Afs a o (kvs.map (·.1))) g tc te k js σ H1 Q:=by
 unfold Kh
 intro D hD
 refine ⟨fun i m H=>m=(kvs.map (·.1)).length-i∧i≤(kvs.map (·.1)).length∧Ah H1 H∧∃ys,H D=some (.lst ys)∧At (R H) (((kvs.map (·.1)).take i).filter c) ys,⟨(kvs.map (·.1)).length,by simp,Nat.zero_le _,Am hD,[],Ad,.nil⟩,?_⟩
 rintro i m H ⟨rfl,hi,sm,ys,hH,ar⟩
 have sq:=sm _ _ hx
 by_cases hlt:i<(kvs.map (·.1)).length
 ·refine .inr ⟨⟨⟨kvs,sq,rfl⟩,hlt⟩,fun v H' y=>?_⟩
  obtain ⟨rfl,x,hxi,rfl⟩:=y
  have yl:ys.length<sizeLine:=by
   rw [←ar.len]
   refine Nat.lt_of_le_of_lt (List.length_filter_le _ _) ?_
   rw [List.length_take]
   exact Nat.lt_of_le_of_lt (Nat.min_le_left _ _) (Nat.lt_of_lt_of_le hlt (Nat.le_trans (by rw [List.length_map];exact hz) (by decide)))
  refine hs x _ (List.mem_of_getElem? hxi) sm _ _ (fun hc y H3 s3 r3=>⟨ys,s3 _ _ hH,yl,(kvs.map (·.1)).length-(i+1),by omega,rfl,hlt,Cb (sm.trans s3) hD,ys++[y],Ad,?_⟩) fun hc H3 s3=>⟨(kvs.map (·.1)).length-(i+1),by omega,rfl,hlt,sm.trans s3,ys,s3 _ _ hH,?_⟩
  ·have kt:Kt H3 (upd H3 D (.lst (ys++[y]))):=Go (s3 _ _ hH)
   rw [List.take_add_one,hxi,List.filter_append]
   have ef:(Option.toList (some x)).filter c=[x]:=by simp [hc]
   rw [ef]
   exact (ar.imp fun v y r=>up v y _ _ ((A7 s3).trans kt) r).snoc (up _ _ _ _ kt r3)
  ·rw [List.take_add_one,hxi,List.filter_append]
   have ef:(Option.toList (some x)).filter c=[]:=by simp [hc]
   rw [ef,List.append_nil]
   exact ar.imp fun v y r=>up v y _ _ (A7 s3) r
 ·have e:i=(kvs.map (·.1)).length:=by omega
  subst e
  rw [List.take_length] at ar
  exact .inl ⟨⟨⟨kvs,sq,rfl⟩,Nat.le_refl _⟩,hq D _ ys sm hD hH ar⟩
theorem Yw (l:Addr)(items:Array Value)(n:Nat)(b:Addr)(items2:Array Value)(n2:Nat)(dd:Option Addr)(sl:Array (Option Value))(hs0:¬(!items.isEmpty&&Builtin.List.listTooLong (items.size+items2.size))=true)(hs1:items.size≤sizeLine)(hs2:items.size+items2.size≤sizeLine+1) :
  Meets (Builtin.«list.extend» ⟨[.ref l,.ref b],[]⟩) (fun _ R s=>s.heap.get? l=some { cls:=.type "list",dict:=none,data:=.seq items n,slots:=#[] }∧s.heap.get? b=some { cls:=.type "tuple",dict:=dd,data:=.seq items2 n2,slots:=sl }∧R (.ok (.ret Value.none)) { s with heap:=s.heap.update l (Obj.mapSeq fun x=>x++items2),toks:=s.toks }):=
 .of_wp fun prog w A R s h=>by
  obtain ⟨hp,g,d,tk,os⟩:=s;obtain ⟨hl,hb,h⟩:=h;have f1:=AutoSeq1.idx_int;have f2:=AutoSeq1.sub_tuple_tuple;have f3:=AutoSeq1.sub_list_list;have f4:=AutoSeq1.sub_tuple_list;have f5:=AutoSeq1.sub_list_tuple
  have hz':(items++items2).size≤sizeLine+1:=by rw [Array.size_append];exact hs2
  wp_walk using (wpAny_updateSeq hl rfl (hz:=hs1) (_hz':=hz')),AutoSeq1.wpAny_loadPart' hl,AutoSeq1.wpAny_loadPart' hb
  exact ⟨_,rfl,h⟩
def Akc:V→List V→Hp→VK→Prop:=fun x vs H Q=>∃l b xs zs,x=.ref l∧vs=[.ref b]∧H l=some (.lst xs)∧H b=some (.tup zs)∧xs.length+zs.length≤sizeLine∧Q .non (upd H l (.lst (xs++zs)))
theorem Acs:MtM X "list.extend" Akc:=by
 intro pins s σ H x vs v us Q I rx rv h
 obtain ⟨l,b,xs,zs,rfl,rfl,hH,hB,hz,q⟩:=h
 cases rx
 obtain ⟨u,rfl,ru⟩:=rv.one
 cases ru
 obtain ⟨z,its,n,r,hl,e⟩:=I.lstM hH
 obtain ⟨z2,its2,r2,⟨c2,d2,b2,l2⟩,f1,f2,n2,f3⟩:=(show Bb X.prog X.w H s.heap _ (.tup zs) from I.hok _ _ hB)
 simp only at f2 f3
 subst f2 f3
 have hl2:=r2.length
 have hsz:its.toArray.size+its2.toArray.size≤sizeLine:=by rw [List.size_toArray,List.size_toArray];omega
 have hlong:¬(!its.toArray.isEmpty&&Builtin.List.listTooLong (its.toArray.size+its2.toArray.size))=true:=by
  rw [Abi hsz,Bool.and_false]
  exact Bool.false_ne_true
 refine call_meets F.slot_list_extend ⟨_,e,rfl⟩ F.entry_list_extend (F.args_list_extend_2 _ _)
  (Yw l its.toArray n b its2.toArray n2 d2 l2 hlong (by rw [List.size_toArray];omega) (by omega)) ⟨e,f1,?_⟩
 refine ⟨.non,_,I.lset (its':=its++its2) hH e (by simp) (r.append r2) ?_,rfl,q⟩
 rw [List.length_append]
 omega
theorem Acx {i o:Expr}{ty td:TE}{pos:Pos}(hu:X.A.units+1<cLine)(hi:PE X i ty)(ho:PE X o td)(hm:behindInMarks .NotIn o=false):PT X (.Compare i [.NotIn] [o] pos) (Lk (V0 ty td)):=by
 rw [Pp]
 exact Afw (Y0 hu hi ho) hm
end
end Lw
end
section
namespace Lw
open PySem PySem.Spec PyProof.Rows L2
end Lw
end
section
namespace Lw
open PySem PySem.Spec PyProof.Rows L2
def Ze (x1 x2 y1 y2:Int):Bool:=decide (y1<x1∨x1=y1∧y2<x2)
theorem O8 {prog:Program}{w:World}{A:Around}{E:Value→Shared→Prop}{s:Shared}{a b:Int}{t u:Tok}{Q:Value→Shared→Prop}(h:Q (.bool (decide (a>b))) s):wpAny (model prog w) A (richCompare .Gt (.int a t) (.int b u)) Q E s:=gt_int h
theorem Yf (l b:Addr)(x1 x2 y1 y2:Int)(t1 t2 u1 u2 n n2:Nat)(dd dd2:Option Addr)(sl sl2:Array (Option Value)) :
  Meets (Builtin.«tuple.__gt__» ⟨[.ref l,.ref b],[]⟩)
   (fun A R s=>s.heap.get? l=some { cls:=.type "tuple",dict:=dd,data:=.seq #[.int x1 t1,.int x2 t2] n,slots:=sl }∧s.heap.get? b=some { cls:=.type "tuple",dict:=dd2,data:=.seq #[.int y1 u1,.int y2 u2] n2,slots:=sl2 } ∧
    R (.ok (.ret (.bool (Ze x1 x2 y1 y2)))) s):=
 .of_wp fun prog w A R s h=>by
  obtain ⟨hp,g,d,tk,os⟩:=s;obtain ⟨hl,hb,h⟩:=h
  have f2:=AutoSeq1.sub_tuple_tuple
  wp_walk using AutoSeq1.wpAny_loadPart' hl,AutoSeq1.wpAny_loadPart' hb,wpAny_forIn_list _ (fun Em b s'=>b.1=none∧s'=⟨hp,g,d,tk,os⟩∧(Em=[(Value.int x1 t1,Value.int y1 u1),(Value.int x2 t2,Value.int y2 u2)]∨(Em=[(Value.int x2 t2,Value.int y2 u2)]∧x1=y1)∨(Em=[]∧x1=y1∧x2=y2))) _
  case turn=>
   rintro ⟨y,x⟩ Em b s' ⟨hb',rfl,hz⟩
   rcases hz with hz|⟨hz,e1⟩|⟨hz,_⟩
   ·injection hz with hyx hrest
    injection hyx with hy hx
    subst hy hx
    refine wpAny_bind (MeetsSeq.EqGives.int x1 y1 t1 u1 _ _ _ _ _ _ ?_)
    cases c:(x1==y1) with
    |true=>
     have c:x1=y1:=by simpa using c
     wp_walk
     exact ⟨rfl,rfl,.inr (.inl ⟨hrest,c⟩)⟩
    | false=>
     have c:¬x1=y1:=by simpa using c
     have e:decide (x1>y1)=Ze x1 x2 y1 y2:=by
      unfold Ze
      exact decide_eq_decide.mpr ⟨.inl,fun h=>h.resolve_right fun z=>c z.1⟩
     wp_walk using O8
     exact ⟨_,rfl,by rw [e];exact h⟩
   ·injection hz with hyx hrest
    injection hyx with hy hx
    subst hy hx
    refine wpAny_bind (MeetsSeq.EqGives.int x2 y2 t2 u2 _ _ _ _ _ _ ?_)
    cases c:(x2==y2) with
    |true=>
     have c:x2=y2:=by simpa using c
     wp_walk
     exact ⟨rfl,rfl,.inr (.inr ⟨hrest,e1,c⟩)⟩
    | false=>
     have c:¬x2=y2:=by simpa using c
     have e:decide (x2>y2)=Ze x1 x2 y1 y2:=by
      unfold Ze
      exact decide_eq_decide.mpr ⟨fun h=>.inr ⟨e1,h⟩,fun h=>h.elim (fun z=>absurd z (by omega)) fun z=>z.2⟩
     wp_walk using O8
     exact ⟨_,rfl,by rw [e];exact h⟩
   ·cases hz
  case fin=>
   rintro ⟨b1,b2⟩ s' ⟨hb',rfl,hz⟩
   simp only at hb'
   subst hb'
   rcases hz with hz|⟨hz,_⟩|⟨_,e1,e2⟩
   ·cases hz
   ·cases hz
   ·have e:Ze x1 x2 y1 y2=false:=decide_eq_false (by omega)
    rw [e] at h
    wp_walk
    exact ⟨_,rfl,h⟩
  case h=>
   exact ⟨rfl,rfl,.inl rfl⟩
section
variable {X:Cx}
def Ai9:R2:=fun x y H Q=>match x,y with
 |.ref a,.ref b=>∃x1 x2 y1 y2:Int,H a=some (.tup [.int x1,.int x2])∧H b=some (.tup [.int y1,.int y2])∧Q (.bl (Ze x1 x2 y1 y2)) H
 |_,_=>False
theorem Ajg (hu:X.A.units+64<cLine):Dv X (compareOp .Gt) Ai9:=by
 intro pins s σ H x y v u Q I rx ry q
 cases x<;>cases y<;>first
  |exact False.elim q
  | (obtain ⟨x1,x2,y1,y2,h1,h2,q⟩:=q
     cases rx
     cases ry
     obtain ⟨_,its,r,⟨c1,d1,b1,l1⟩,e1,e2,n,e3⟩:=(show Bb X.prog X.w H s.heap _ (.tup [.int x1,.int x2]) from I.hok _ _ h1)
     obtain ⟨_,its2,r2,⟨c2,d2,b2,l2⟩,f1,f2,n2,f3⟩:=(show Bb X.prog X.w H s.heap _ (.tup [.int y1,.int y2]) from I.hok _ _ h2)
     obtain ⟨w1,w2,rfl,⟨t1,rfl⟩,⟨t2,rfl⟩⟩:=Hk r
     obtain ⟨w3,w4,rfl,⟨u1,rfl⟩,⟨u2,rfl⟩⟩:=Hk r2
     simp only at e2 e3 f2 f3
     subst e2 e3 f2 f3
     exact richCompare_meets_room (op:=.Gt) ⟨_,e1,rfl⟩ ⟨_,f1,rfl⟩ F.slot_tuple_gt F.entry_tuple_gt (F.args_tuple_gt_2 _ _) (Yf _ _ x1 x2 y1 y2 t1 t2 u1 u2 n n2 d1 d2 l1 l2)
       ⟨e1,f1,show Value.bool (Ze x1 x2 y1 y2)≠Value.notImplemented∧_ from ⟨(fun x=>nomatch x),.bl _,H,I,rfl,q⟩⟩ (by omega))
end
end Lw
end
section
namespace Lw
open PySem PySem.Spec PySem.W PyProof.Rows L2
theorem Qb {α:Type}{r:α→α→Prop}(tr:∀{a b c},r a b→r b c→r a c){a b c:α}{P Q R:Prop}(h:P→Q→R):(r a b∨a=b∧P)→(r b c∨b=c∧Q)→(r a c∨a=c∧R)
 |.inl x,.inl y=>.inl (tr x y)
 |.inl x,.inr ⟨e,_⟩=>.inl (e▸x)
 |.inr ⟨e,_⟩,.inl y=>.inl (e▸y)
 |.inr ⟨e,p⟩,.inr ⟨f,q⟩=>.inr ⟨e.trans f,h p q⟩
theorem Le {α:Type}{r:α→α→Prop}{a b:α}(t:r a b∨a=b∨r b a){P Q R:Prop}(h:P∨Q∨R):(r a b∨a=b∧P)∨(a=b∧Q)∨(r b a∨b=a∧R):=by
 rcases t with t|t|t
 ·exact .inl (.inl t)
 ·rcases h with h|h|h
  ·exact .inl (.inr ⟨t,h⟩)
  ·exact .inr (.inl ⟨t,h⟩)
  ·exact .inr (.inr (.inr ⟨t.symm,h⟩))
 ·exact .inr (.inr (.inl t))
def Yd (g h:Gm):Prop:=g.d<h.d∨g.d=h.d∧(lS g.a h.a∨g.a=h.a∧(lS g.b h.b∨g.b=h.b∧(g.h<h.h∨g.h=h.h∧g.s<h.s)))
theorem Aa0 {a b c:Gm}:Yd a b→Yd b c→Yd a c:=Qb (r:=fun x y:Int=>x<y) Int.lt_trans (Qb (r:=lS) W3 (Qb (r:=lS) W3 (Qb (r:=fun x y:Int=>x<y) Int.lt_trans Int.lt_trans)))
theorem Q9 (a:Gm):¬Yd a a:=by
 rintro (h|⟨_,h|⟨_,h|⟨_,h|⟨_,h⟩⟩⟩⟩)
 ·exact Int.lt_irrefl _ h
 ·exact Ie _ h
 ·exact Ie _ h
 ·exact Int.lt_irrefl _ h
 ·exact Int.lt_irrefl _ h
theorem Wt (a b:Gm):Yd a b∨a=b∨Yd b a:=by
 have ti:∀x y:Int,x<y∨x=y∨y<x:=fun x y=>by omega
 have tS:∀x y:Str,lS x y∨x=y∨lS y x:=fun x y=>by
  by_cases c:lS x y
  ·exact .inl c
  ·by_cases c':lS y x
   ·exact .inr (.inr c')
   ·exact .inr (.inl (Q3 c c'))
 have:=Le (r:=fun x y:Int=>x<y) (ti a.d b.d) (Le (tS a.a b.a) (Le (tS a.b b.b) (Le (r:=fun x y:Int=>x<y) (ti a.h b.h) (ti a.s b.s))))
 rcases this with h|⟨h1,h2,h3,h4,h5⟩|h
 ·exact .inl h
 ·refine .inr (.inl ?_)
  cases a
  cases b
  simp_all
 ·exact .inr (.inr h)
def ltB (g h:Gm):Bool:=if g.d=h.d then (if g.a=h.a then (if g.b=h.b then (if g.h=h.h then decide (g.s<h.s) else decide (g.h<h.h)) else decide (g.b.cps.toList<h.b.cps.toList)) else decide (g.a.cps.toList<h.a.cps.toList)) else decide (g.d<h.d)
theorem Qm {α:Type}[DecidableEq α]{r:α→α→Prop}[DecidableRel r](irr:∀a,¬r a a){a b:α}{x:Bool}{P:Prop}(h:x=true↔P):(if a=b then x else decide (r a b))=true↔(r a b∨a=b∧P):=by
 by_cases c:a=b
 ·rw [if_pos c,h]
  exact ⟨fun z=>.inr ⟨c,z⟩,fun z=>z.elim (fun z=>absurd (c▸z) (irr _)) fun z=>z.2⟩
 ·rw [if_neg c,decide_eq_true_eq]
  exact ⟨.inl,fun z=>z.elim id fun z=>absurd z.1 c⟩
theorem F4 (g h:Gm):ltB g h=true↔Yd g h:=by
 unfold ltB Yd
 exact Qm (r:=fun x y:Int=>x<y) Int.lt_irrefl (Qm (r:=fun x y:Str=>x.cps.toList<y.cps.toList) Ie (Qm (r:=fun x y:Str=>x.cps.toList<y.cps.toList) Ie (Qm (r:=fun x y:Int=>x<y) Int.lt_irrefl decide_eq_true_iff)))
theorem Aac {p q:Gm→Bool}(h:∀x,p x=true→q x=true):∀{l:List Gm} {x:Gm},x∈l→q x=true→p x=false→l.countP p<l.countP q
 | y::l,x,hx,h1,h2=>by
  have m:l.countP p≤l.countP q:=List.countP_mono_left fun y _=>h y
  rw [List.countP_cons,List.countP_cons]
  rcases List.mem_cons.mp hx with rfl|hx
  ·rw [h1,h2]
   simp only [Bool.false_eq_true,if_false,if_true]
   omega
  ·have:=Aac h hx h1 h2
   cases c:p y with
   |true=>
    rw [h y c]
    omega
   |false=>
    simp only [Bool.false_eq_true,if_false]
    omega
def kG (gs:List Gm)(g:Gm):Int:=(gs.countP fun h=>ltB h g:Nat)
theorem Zh {gs:List Gm}{g h:Gm}(hg:g∈gs)(l:Yd g h):kG gs g<kG gs h:=by
 unfold kG
 refine Int.ofNat_lt.mpr (Aac (fun x hx=>?_) hg ((F4 _ _).mpr l) ?_)
 ·exact (F4 _ _).mpr (Aa0 ((F4 _ _).mp hx) l)
 ·cases c:ltB g g with
  |true=>exact absurd ((F4 _ _).mp c) (Q9 _)
  |false=>rfl
theorem Akv {gs:List Gm}{g h:Gm}(hg:g∈gs)(hh:h∈gs):decide (kG gs g<kG gs h)=ltB g h:=by
 rcases Wt g h with c|c|c
 ·rw [(F4 _ _).mpr c]
  exact decide_eq_true (Zh hg c)
 ·subst c
  have:ltB g g=false:=by
   cases c:ltB g g with
   |true=>exact absurd ((F4 _ _).mp c) (Q9 _)
   |false=>rfl
  rw [this]
  exact decide_eq_false (Int.lt_irrefl _)
 ·have:ltB g h=false:=by
   cases c':ltB g h with
   |true=>exact absurd (Aa0 ((F4 _ _).mp c') c) (Q9 _)
   |false=>rfl
  rw [this]
  have:=Zh hh c
  exact decide_eq_false (by omega)
section
variable {prog:Program}{w:World}{A:Around}{E:Value→Shared→Prop}{s:Shared}{a:Addr}{vs:List Value}
theorem Xa (vs:List Value):(vs.toArray.zip vs.toArray).map (·.2)=vs.toArray:=by
 refine Array.ext (by simp) fun i h1 h2=>?_
 simp
theorem Ak0 {key:Nat→Int}{n:Nat}{P:PySem.Fin→Shared→Prop}(ho:s.heap.get? a=some (seqObj "list" vs.toArray n))(h64:vs.length<64)(κ:SortKind)
  (hk:∀h':Heap,(∀b o,b≠a→s.heap.get? b=some o→h'.get? b=some o)→∀Q:SortKind→Shared→Prop,2≤vs.length→Q κ { s with heap:=h' }→wpAny (model prog w) A (keyKind' vs.toArray) Q (fun _ _=>False) { s with heap:=h' })
  (hc:∀h':Heap,(∀b o,b≠a→s.heap.get? b=some o→h'.get? b=some o)→∀i j,i<vs.length→j<vs.length→∀C:Bool→Shared→Prop,C (decide (key i<key j)) { s with heap:=h' }→kas_ask prog w A κ vs i j C { s with heap:=h' })
  (h:∀p,Fx key vs.length p→P (.done (.ret .none)) { s with heap:=sortedHeap s.heap a vs (List.toArray (Gk vs p)) }) :
  wpAny (model prog w) A (Builtin.«list.sort» ⟨[.ref a],[]⟩) P E s:=by
 have ha:a<s.heap.objs.size:=Heap.lt_size ho
 obtain ⟨e1,ho1⟩:∃e1,(s.heap.update a (Obj.mapSeq fun _=>(#[]:Array Value))).get? a=some (seqObj "list" #[] e1):=⟨_,get?_update_seq ho fun _=>#[]⟩
 have ho6:(((s.heap.update a (Obj.mapSeq fun _=>#[])).push (seqObj "tuple" vs.toArray 0)).push (seqObj "list" #[] 0)).get? a=some (seqObj "list" #[] e1):=Heap.get?_push_of_some _ (Heap.get?_push_of_some _ ho1)
 have kp:∀b o,b≠a→s.heap.get? b=some o→(((s.heap.update a (Obj.mapSeq fun _=>#[])).push (seqObj "tuple" vs.toArray 0)).push (seqObj "list" #[] 0)).get? b=some o:=fun b o ne e=>
  Heap.get?_push_of_some _ (Heap.get?_push_of_some _ (by rw [Heap.get?_update_ne _ _ _ _ ne];exact e))
 rw [list_sort_plain]
 refine wpAny_bind (listItems_at ho rfl ?_)
 refine wpAny_bind (listUpdate_at ho rfl ?_ (by rw [List.size_toArray,sizeLine_eq];omega) (Nat.zero_le _))
 refine wpAny_bind (seqEpoch_at ho1 rfl ?_)
 refine wpAny_bind (wpAny_newTuple ?_ (by show vs.length≤_;rw [sizeLine_eq];omega))
 refine wpAny_bind (wpAny_newList ?_ (Nat.zero_le _))
 refine wpAny_holding ?_
 show wpAny (model prog w) A _ P E { s with heap:=((s.heap.update a (Obj.mapSeq fun _=>(#[]:Array Value))).push (seqObj "tuple" vs.toArray 0)).push (seqObj "list" #[] 0) }
 dsimp only
 by_cases h2:vs.toArray.size<2
 ·rw [if_pos h2,if_pos h2]
  have h2':vs.length<2:=by rwa [List.size_toArray] at h2
  have h:=h _ (P0 h2')
  refine wpAny_bind (wpAny_pure ?_)
  rw [StateT.run_pure]
  refine wpAny_bind (wpAny_pure ?_)
  dsimp only
  refine wpAny_bind (seqEpoch_at ho6 rfl ?_)
  rw [L7,←Xa] at h
  refine wpAny_bind (listUpdate_at ho6 rfl ?_ (Nat.zero_le _) (by
   show ((vs.toArray.zip vs.toArray).map (·.2)).size≤_
   rw [Xa,List.size_toArray,sizeLine_eq]
   omega))
  simp only [bne_self_eq_false,Bool.false_eq_true,if_false]
  exact wpAny_pure h
 ·rw [if_neg h2,if_neg h2]
  have h2':¬vs.length<2:=by rwa [List.size_toArray] at h2
  refine wpAny_bind (wpAny_mono (hk _ kp (fun κ' s'=>κ'=κ∧s'={ s with heap:=((s.heap.update a (Obj.mapSeq fun _=>(#[]:Array Value))).push (seqObj "tuple" vs.toArray 0)).push (seqObj "list" #[] 0) }) (by omega) ⟨rfl,rfl⟩) (fun κ' s0 hk=>?_) fun _ _ x=>x.elim)
  obtain ⟨rfl,rfl⟩:=hk
  refine wpAny_bind (wpAny_mono (kat_run (Q:=fun st' s'=>s'={ s with heap:=((s.heap.update a (Obj.mapSeq fun _=>(#[]:Array Value))).push (seqObj "tuple" vs.toArray 0)).push (seqObj "list" #[] 0) }∧∃p:Array Nat,Fx key vs.length p.toList∧(arrOf st').map (·.2)=List.toArray (Gk vs p.toList)∧failedOf st'=none)
   (G:=fun p s'=>s'={ s with heap:=((s.heap.update a (Obj.mapSeq fun _=>(#[]:Array Value))).push (seqObj "tuple" vs.toArray 0)).push (seqObj "list" #[] 0) }∧Fx key vs.length p.toList) rfl (by omega) h64 (fun p' st' s' a1 a2 a3 ⟨a4,a5⟩=>⟨a4,p',a5,kat_snds rfl a2,a3⟩) (Rn.wp (key:=key) (n:=vs.length) (hc _ kp) (Rn.mono (fun p hp=>⟨rfl,Vu hp.1 hp.2⟩) (Qd (by omega))))) ?_ fun _ _ e=>e)
  rintro ⟨⟨⟩,st'⟩ s' ⟨rfl,p,hs,hout,hf⟩
  dsimp only at hout hf ⊢
  refine wpAny_bind (seqEpoch_at ho6 rfl ?_)
  rw [hout,hf]
  refine wpAny_bind (listUpdate_at ho6 rfl ?_ (Nat.zero_le _) (by
   show (List.toArray (Gk vs p.toList)).size≤_
   unfold Gk
   rw [List.size_toArray,List.length_map,hs.1,sizeLine_eq]
   omega))
  simp only [bne_self_eq_false,Bool.false_eq_true,if_false]
  exact wpAny_pure (h _ hs)
theorem Ajq {key:Nat→Int}{l:Addr}{Q:Value→Shared→Prop}(hl:s.heap.IsList l vs.toArray)(h64:vs.length<64)(κ:SortKind)
  (hk:∀h':Heap,(∀b o,s.heap.get? b=some o→h'.get? b=some o)→∀Q:SortKind→Shared→Prop,2≤vs.length→Q κ { s with heap:=h' }→wpAny (model prog w) A.in1.in1 (keyKind' vs.toArray) Q (fun _ _=>False) { s with heap:=h' })
  (hc:∀h':Heap,(∀b o,s.heap.get? b=some o→h'.get? b=some o)→∀i j,i<vs.length→j<vs.length→∀C:Bool→Shared→Prop,C (decide (key i<key j)) { s with heap:=h' }→kas_ask prog w A.in1.in1 κ vs i j C { s with heap:=h' })
  (h:∀p,Fx key vs.length p→Q (.ref (s.heap.objs.size+1)) { s with heap:=sortedAll s.heap vs (List.toArray (Gk vs p)) }) :
  wpAny (model prog w) A (call (.builtin "sorted") [.ref l]) Q E s:=by
 refine Calls.call_function_entry kind_sorted plain_sorted entry_sorted (args_sorted1 _) ?_
 unfold Builtin.«sorted»
 refine wpAny_bind (m:=checkCount "sorted" 1 1 _) (wpAny_pure ?_)
 refine wpAny_bind (collect_list hl ?_ (by rw [sizeLine_eq];omega))
 refine wpAny_bind (wpAny_newList ?_ (by rw [sizeLine_eq];omega))
 have hsz:((s.heap.push (seqObj "list" #[] 0)).update s.heap.objs.size (Obj.mapSeq (· ++ vs.toArray))).objs.size=s.heap.objs.size+1:=by
  rw [Heap.size_update,size_push']
 have hoL:(((s.heap.push (seqObj "list" #[] 0)).update s.heap.objs.size (Obj.mapSeq (· ++ vs.toArray))).push (seqObj "list" vs.toArray 0)).get? (s.heap.objs.size+1)=some (seqObj "list" vs.toArray 0):=by
  rw [←hsz];exact Heap.get?_push_size _ rfl
 have keep:∀b o,s.heap.get? b=some o→(((s.heap.push (seqObj "list" #[] 0)).update s.heap.objs.size (Obj.mapSeq (· ++ vs.toArray))).push (seqObj "list" vs.toArray 0)).get? b=some o:=fun b o q=>by
  have hlt:b<s.heap.objs.size:=Heap.lt_size q
  rw [Heap.get?_push_ne _ _ _ (by rw [hsz];exact Nat.ne_of_lt (Nat.lt_succ_of_lt hlt)),Heap.get?_update_ne _ _ _ _ (Nat.ne_of_lt hlt),Heap.get?_push_ne _ _ _ (Nat.ne_of_lt hlt)]
  exact q
 show wpAny _ _ _ _ _ { s with heap:=((s.heap.push (seqObj "list" #[] 0)).update s.heap.objs.size (Obj.mapSeq (· ++ vs.toArray))).push (seqObj "list" vs.toArray 0) }
 rw [hsz]
 have ne:∀b o,s.heap.get? b=some o→b≠s.heap.objs.size+1:=fun b o e=>Nat.ne_of_lt (Nat.lt_succ_of_lt (Heap.lt_size e))
 refine wpAny_bind (wpAny_holding (wpAny_call_entry slot_list_sort ⟨_,hoL,rfl⟩ entry_list_sort (Ak0 (key:=key) (s:={ s with heap:=((s.heap.push (seqObj "list" #[] 0)).update s.heap.objs.size (Obj.mapSeq (· ++ vs.toArray))).push (seqObj "list" vs.toArray 0) }) hoL h64 κ (fun h' k=>hk h' fun b o e=>k b o (ne b o e) (keep b o e)) (fun h' k=>hc h' fun b o e=>k b o (ne b o e) (keep b o e)) (fun p hp=>⟨_,rfl,?_⟩)) (args_list_sort _)))
 exact wpAny_pure ⟨_,rfl,h p hp⟩
end
section
variable {X:Cx}{pins:List (Addr×Obj)}{σ:L2.St}{H:Hp}{s:Shared}
theorem Aa3 (I:Ar X pins σ H s){p:Addr}{g:Gm}(e:H p=some (.tup [.int g.d,.str g.a,.str g.b,.int g.h,.int g.s])):∃o t1 t2 t3 t4 t5 k,s.heap.get? p=some o∧o.cls=.type "tuple"∧o.data=.seq #[.int g.d t1,.str g.a t2,.str g.b t3,.int g.h t4,.int g.s t5] k:=by
 obtain ⟨_,its,r,o,h1,h2,n,h3⟩:=(show Bb X.prog X.w H s.heap p (.tup [.int g.d,.str g.a,.str g.b,.int g.h,.int g.s]) from I.hok p _ e)
 cases r with
 |cons r1 r=>
 cases r with
 |cons r2 r=>
 cases r with
 |cons r3 r=>
 cases r with
 |cons r4 r=>
 cases r with
 |cons r5 r=>
 cases r
 obtain ⟨t1,rfl⟩:=r1
 obtain ⟨t2,rfl⟩:=r2
 obtain ⟨t3,rfl⟩:=r3
 obtain ⟨t4,rfl⟩:=r4
 obtain ⟨t5,rfl⟩:=r5
 exact ⟨o,t1,t2,t3,t4,t5,n,h1,h2,by simpa using h3⟩
theorem Vy (I:Ar X pins σ H s){h':Heap}(kp:∀b o,s.heap.get? b=some o→h'.get? b=some o):∀{xs:List V} {gs:List Gm} {its:List Value},A4 xs its→At (Bw H) xs gs→∃fs,KatTups h' its fs∧fs.length=gs.length∧∀v∈fs,∃x t,v=.int x t
 |_,_,_,.nil,.nil=>⟨[],.nil,rfl,fun v h=>by simp at h⟩
 |_,_,_,.cons r1 r2,.cons ⟨p,e,hp⟩ al=>by
  subst e
  cases r1
  obtain ⟨fs,k1,k2,k3⟩:=Vy I kp r2 al
  obtain ⟨o,t1,t2,t3,t4,t5,k,h1,h2,h3⟩:=Aa3 I hp
  refine ⟨_::fs,.cons (kp _ _ h1) h2 h3 rfl k1,by rw [List.length_cons,k2,List.length_cons],fun v hv=>?_⟩
  rcases List.mem_cons.mp hv with rfl|hv
  ·exact ⟨_,_,rfl⟩
  ·exact k3 v hv
theorem Ac8 {key:Nat→Int}{n:Nat}{p:List Nat}(h:Fx key n p):p.Perm (List.range n):=by
 have nd:p.Nodup:=h.2.2.imp fun {a b} z e=>by
  subst e
  rcases z with z|⟨_,z⟩
  ·exact Int.lt_irrefl _ z
  ·exact Nat.lt_irrefl _ z
 refine (List.perm_ext_iff_of_nodup nd List.nodup_range).mpr fun i=>⟨fun hi=>List.mem_range.mpr (h.2.1 i hi),fun hi=>?_⟩
 refine Classical.byContradiction fun c=>?_
 have:=Hq (l:=i::p) (m:=List.range n) (List.nodup_cons.mpr ⟨c,nd⟩) fun x hx=>by
  rcases List.mem_cons.mp hx with rfl|hx
  ·exact hi
  ·exact List.mem_range.mpr (h.2.1 x hx)
 rw [List.length_cons,List.length_range,h.1] at this
 omega
def gz:Gm:=⟨0,⟨#[]⟩,⟨#[]⟩,0,0⟩
theorem Mb {xs:List V}{its:List Value}(rv:A4 xs its):∀{L:List Nat},(∀i∈L,i<xs.length)→A4 (L.map fun i=>xs.getD i .non) (L.map fun i=>its.getD i Value.none)
 |[],_=>.nil
 |i::L,h=>by
  have hi:=h i List.mem_cons_self
  obtain ⟨v,hv,r⟩:=rv.get (List.getElem?_eq_getElem hi)
  rw [List.map_cons,List.map_cons]
  refine .cons ?_ (Mb rv fun j hj=>h j (List.mem_cons_of_mem _ hj))
  rw [List.getD_eq_getElem?_getD,List.getD_eq_getElem?_getD,hv,List.getElem?_eq_getElem hi]
  exact r
theorem V1 {xs:List V}{gs:List Gm}(al:At (Bw H) xs gs):∀{L:List Nat},(∀i∈L,i<xs.length)→At (Bw H) (L.map fun i=>xs.getD i .non) (L.map fun i=>gs.getD i gz)
 |[],_=>.nil
 |i::L,h=>by
  have hi:=h i List.mem_cons_self
  obtain ⟨v,hv,r⟩:=al.get (List.getElem?_eq_getElem hi)
  rw [List.map_cons,List.map_cons]
  refine .cons ?_ (V1 al fun j hj=>h j (List.mem_cons_of_mem _ hj))
  rw [List.getD_eq_getElem?_getD,List.getD_eq_getElem?_getD,hv,List.getElem?_eq_getElem hi]
  exact r
def Agl (K:PySem.W.Frag):List V→Hp→VK→Prop:=fun xs H Q=>match xs with
 |[.ref l]=>∃(vs:List V) (gs:List Gm),Ay K H l vs∧At (Bw H) vs gs∧gs.length<64∧∀D (ys:List V) (hs:List Gm),H D=none→At (Bw H) ys hs→hs.Perm gs→hs.Pairwise (fun a b=>¬Yd b a)→Q (.ref D) (upd H D (.lst ys))
 |_=>False
theorem Xd:Ed X (.builtin "sorted") (Agl X.K):=by
 intro pins s σ H xs us Q I r h
 match xs,h with
 | [.ref l],⟨vs,gs,hq,al,hn,q⟩=>
  obtain ⟨u,rfl,ru⟩:=r.one
  cases (show u=Value.ref l from ru)
  obtain ⟨its,rv,⟨oL,nL,eL,cL,dL,xL⟩,hz⟩:=I.list hq
  have hl:its.length=gs.length:=by rw [←rv.length,al.len]
  have hv:vs.length=gs.length:=al.len
  have at':∀i,i<gs.length→∃p,its.getD i Value.none=.ref p∧H p=some (.tup [.int (gs.getD i gz).d,.str (gs.getD i gz).a,.str (gs.getD i gz).b,.int (gs.getD i gz).h,.int (gs.getD i gz).s])∧gs.getD i gz∈gs:=fun i hi=>by
   have hi':i<vs.length:=by omega
   obtain ⟨g,hg,p,e,hp⟩:=al.get (List.getElem?_eq_getElem hi')
   obtain ⟨v,hv,rv'⟩:=rv.get (show vs[i]? =some (.ref p) by rw [List.getElem?_eq_getElem hi',e])
   cases rv'
   have e0:gs.getD i gz=g:=by rw [List.getD_eq_getElem?_getD,hg];rfl
   rw [e0]
   exact ⟨p,by rw [List.getD_eq_getElem?_getD,hv];rfl,hp,List.mem_of_getElem? hg⟩
  refine Ajq (key:=fun i=>kG gs (gs.getD i gz)) (vs:=its) ⟨oL,eL,cL,nL,xL⟩ (by omega) (tuples' true) (fun h' kp Q' h2 q'=>?_) (fun h' kp i j hi hj C hC=>?_) (fun p hp=>?_)
  ·obtain ⟨fs,k1,k2,k3⟩:=Vy I kp rv al
   refine kat_kind (s:={ s with heap:=h' }) (T:=.type "int") k1 (by omega) (fun v hv=>?_) rfl q'
   obtain ⟨x,t,rfl⟩:=k3 v hv
   exact fun A Q E s _ q=>wpAny_pure q
  ·obtain ⟨p,ep,hp,mp⟩:=at' i (by omega)
   obtain ⟨p2,ep2,hp2,mp2⟩:=at' j (by omega)
   obtain ⟨o,t1,t2,t3,t4,t5,k,h1,h2,h3⟩:=Aa3 I hp
   obtain ⟨o',u1,u2,u3,u4,u5,k',g1,g2,g3⟩:=Aa3 I hp2
   rw [Akv mp mp2] at hC
   generalize gs.getD i gz=g at *
   generalize gs.getD j gz=g' at *
   unfold kas_ask
   rw [ep,ep2]
   unfold ltB at hC
   refine kat_lt (s:={ s with heap:=h' }) (kp _ _ h1) h3 (kp _ _ g1) g3 (kat_cons ?_)
   refine SeqAt.EqAt.int_int g.d t1 g'.d u1 _ _ _ _ (kat_go (fun c=>?_) (fun c=>?_))
   rotate_left
   ·rw [if_neg (by simpa using c)] at hC
    exact kat_no (oneLt_int hC)
   rw [if_pos (by simpa using c)] at hC
   refine kat_yes (kat_cons (SeqAt.EqAt.str_str g.a t2 g'.a u2 _ _ _ _ (kat_go (fun c=>?_) (fun c=>?_))))
   rotate_left
   ·rw [if_neg (by simpa using c)] at hC
    exact kat_no (kat_one _ _ (lt_str hC))
   rw [if_pos (by simpa using c)] at hC
   refine kat_yes (kat_cons (SeqAt.EqAt.str_str g.b t3 g'.b u3 _ _ _ _ (kat_go (fun c=>?_) (fun c=>?_))))
   rotate_left
   ·rw [if_neg (by simpa using c)] at hC
    exact kat_no (kat_one _ _ (lt_str hC))
   rw [if_pos (by simpa using c)] at hC
   refine kat_yes (kat_cons (SeqAt.EqAt.int_int g.h t4 g'.h u4 _ _ _ _ (kat_go (fun c=>?_) (fun c=>?_))))
   rotate_left
   ·rw [if_neg (by simpa using c)] at hC
    exact kat_no (kat_one _ _ (lt_int hC))
   rw [if_pos (by simpa using c)] at hC
   refine kat_yes (kat_cons (SeqAt.EqAt.int_int g.s t5 g'.s u5 _ _ _ _ (kat_go (fun c=>?_) (fun c=>?_))))
   rotate_left
   ·exact kat_no (kat_one _ _ (lt_int hC))
   refine kat_yes (kat_nil ?_)
   have c:g.s=g'.s:=by simpa using c
   rw [decide_eq_false (show ¬g.s<g'.s by omega)] at hC
   exact hC
  ·have lt:∀i∈p,i<vs.length:=fun i hi=>by
    have:=hp.2.1 i hi
    omega
   obtain ⟨n,hr⟩:=sortedAll_at s.heap its (List.toArray (Gk its p))
   have vv:=Mb rv lt
   have pp:(p.map fun i=>gs.getD i gz).Perm gs:=by
    have:=(Ac8 hp).map fun i=>gs.getD i gz
    rw [hl] at this
    refine this.trans (.of_eq ?_)
    refine List.ext_getElem (by simp) fun i h1 h2=>?_
    simp [h2]
   have I2:=I.laid (t':=s.toks) (h':=sortedAll s.heap its (List.toArray (Gk its p))) (a:=s.heap.objs.size+1) (o:=.lst (p.map fun i=>vs.getD i .non)) (fun b u e=>sortedAll_old e) (Nat.le_succ _) ⟨by rw [List.length_map,hp.1];exact Nat.le_trans (show its.length≤64 by omega) (by decide),(List.toArray (Gk its p)).toList,n,vv,by rw [hr]⟩
   refine ⟨.ref (s.heap.objs.size+1),_,I2,rfl,q _ _ _ (I.hok.fresh (Nat.le_succ _)) (V1 al lt) pp ?_⟩
   refine List.pairwise_map.mpr (hp.2.2.imp_of_mem fun {i j} hi hj z c=>?_)
   obtain ⟨_,_,_,mi⟩:=at' i (by have:=lt i hi;omega)
   obtain ⟨_,_,_,mj⟩:=at' j (by have:=lt j hj;omega)
   have:=Zh mj c
   rcases z with z|⟨z,_⟩
   ·have z:kG gs (gs.getD i gz)<kG gs (gs.getD j gz):=z
    omega
   ·have z:kG gs (gs.getD i gz)=kG gs (gs.getD j gz):=z
    omega
end
end Lw
end
section
namespace Lw
open PySem PySem.Spec PyProof.Rows L2
def Zl:V→List V→Hp→VK→Prop:=fun x vs H Q=>∃(l:Addr) (xs:List Int) (y:Int),x=.ref l∧vs=[.int y]∧H l=some (.lst (xs.map V.int))∧y∈xs∧Q .non (upd H l (.lst ((xs.erase y).map V.int)))
section
variable {X:Cx}
theorem Ahx {xs:List Int}{its:List Value}(r:A4 (xs.map V.int) its){i:Nat}(hi:i<its.length)(hx:i<xs.length):∃t,its[i]=Value.int xs[i] t:=by
 obtain ⟨u,e,t,rfl⟩:=r.get (i:=i) (x:=V.int xs[i]) (by rw [List.getElem?_map,List.getElem?_eq_getElem hx];rfl)
 rw [List.getElem?_eq_getElem hi] at e
 exact ⟨t,Option.some.inj e⟩
def isI (y:Int):Value→Bool
 |.int x _=>x==y
 |_=>false
theorem Uh:MtM X "list.remove" Zl:=by
 intro pins s σ H x vs v us Q I rx rv h
 obtain ⟨l,xs,y,rfl,rfl,hH,hy,q⟩:=h
 cases rx
 obtain ⟨u1,rfl,r1⟩:=K1 rv
 obtain ⟨t,rfl⟩:=(show ∃t,u1=Value.int y t from r1)
 obtain ⟨z,its,n,r,hl,e⟩:=I.lstM hH
 have len:its.length=xs.length:=by rw [←hl,List.length_map]
 have ij:xs.idxOf y<xs.length:=List.idxOf_lt_length_of_mem hy
 have key:∀i (hi:i<its.length),∃t,its[i]=Value.int (xs[i]'(by omega)) t:=fun i hi=>Ahx r hi (by omega)
 refine call_meets F.slot_list_remove ⟨_,e,rfl⟩ F.entry_list_remove (F.args_list_remove_2 _ _)
  (MeetsSeq.list_remove l its.toArray n (.int y t) (isI y) (fun w hw=>?_) (xs.idxOf y) (by rw [List.size_toArray];omega) ?_ (fun m hm hmj=>?_) (by rw [List.size_toArray,←hl];exact z)) ⟨e,?_⟩
 ·obtain ⟨i,hi,rfl⟩:=List.getElem_of_mem (by simpa using hw:w∈its)
  obtain ⟨t',e'⟩:=key i hi
  rw [e']
  show MeetsSeq.EqGives _ _ (xs[i]==y)
  exact MeetsSeq.EqGives.int _ _ _ _
 ·obtain ⟨t',e'⟩:=key (xs.idxOf y) (by omega)
  have:its.toArray[xs.idxOf y]'(by rw [List.size_toArray];omega)=its[xs.idxOf y]'(by omega):=by simp
  rw [this,e']
  show (_==y)=true
  rw [List.getElem_idxOf]
  exact beq_self_eq_true y
 ·have hm':m<its.length:=by simpa using hm
  obtain ⟨t',e'⟩:=key m hm'
  have:its.toArray[m]=its[m]:=by simp
  rw [this,e']
  show (_==y)=false
  have:=List.not_of_lt_findIdx (p:=fun a=>a==y) (xs:=xs) (i:=m) hmj
  simpa using this
 ·refine ⟨.non,_,I.lset (its':=its.eraseIdx (xs.idxOf y)) hH e ?_ ?_ ?_,rfl,q⟩
  ·simp [len,ij]
  ·rw [List.erase_eq_eraseIdx_of_idxOf rfl]
   have:=A4.eraseIdx' (xs.idxOf y) r
   rwa [P4] at this
  ·rw [List.length_map]
   exact Nat.le_trans (List.length_erase_le) (by rw [List.length_map] at z;exact z)
end
end Lw
end
section
namespace Lw
open PySem PySem.Spec PyProof.Rows L2
section
variable {X:Cx}
structure EAt (e it l:Addr)(n:Nat)(h:Heap):Prop where
 e:∃old,IsEnum h e it ((n:Nat):Int) old
 a:h.IsListIter it l n
def Ite (K:PySem.W.Frag)(a:Addr):It:=
 ⟨fun i H=>∃xs x,Ay K H a xs∧xs[i]? =some x,
  fun i H v H'=>∃t x,v=.ref t∧H t=none∧H'=upd H t (.tup [.int ((i:Nat):Int),x])∧∀xs,Ay K H a xs→xs[i]? =some x,
  fun i H=>∃xs,Ay K H a xs∧xs.length≤i⟩
theorem X8 {P:Program}{w:World}{K:PySem.W.Frag}{es:List Expr}{x1}{pos:Pos}{e it a:Addr}(hei:e≠it) :
  Ur P w K (.Tuple es x1 pos) (Ite K a) [e,it] e (EAt e it a) where
 mem:=by simp
 obj:=fun i h Z c hc=>by
  have hc:c=e∨c=it:=by simpa using hc
  rcases hc with rfl|rfl
  ·obtain ⟨old,h⟩:=Z.e
   exact ⟨_,h,fun v e=>by cases e⟩
  ·obtain ⟨o,e,_,d⟩:=Z.a
   exact ⟨o,e,fun v z=>by rw [d] at z;cases z⟩
 keep:=fun i h h' Z k=>by
  obtain ⟨old,he⟩:=Z.e
  obtain ⟨o,e1,r⟩:=Z.a
  exact ⟨⟨old,k e (by simp) _ he⟩,⟨o,k it (by simp) o e1,r⟩⟩
 item:=by
  intro X hP hw hK hc i pins s σ H E I hf Z hg
  subst hP hw hK
  obtain ⟨xs,x,q1,e1⟩:=hg
  obtain ⟨us,r1,p1⟩:=F6 (kd:=true) I q1
  obtain ⟨u,hu,ru⟩:=r1.get e1
  obtain ⟨old,he⟩:=Z.e
  have hfr:H s.heap.objs.size=none:=I.hok.fresh (Nat.le_refl _)
  refine wpAny_pyNext_enum_item he Z.a (show s.heap.IsList a us.toArray from p1) (x:=u) (by simpa using hu) hei fun g heo hit ht hz kp=>⟨_,rfl,?_⟩
  have elt:e<s.heap.objs.size:=Heap.lt_size he
  have ilt:it<s.heap.objs.size:=by obtain ⟨_,e,_⟩:=Z.a;exact Heap.lt_size e
  refine wpAny_letOwnedTupleGo_enum (s:={ s with heap:=g,toks:=s.toks+1 }) heo fun g' z' s'=>?_
  have kp':∀c o,c≠e→c≠it→s.heap.get? c=some o→g'.get? c=some o:=fun c o n1 n2 e=>s'.extBut _ _ n1 (kp c o n1 n2 e)
  have a5':g'.get? s.heap.objs.size=some { cls:=.type "tuple",data:=.seq #[.int i s.toks,u] }:=s'.extBut _ _ (Nat.ne_of_gt elt) ht
  have I1:Ar X pins σ (upd H s.heap.objs.size (.tup [.int i,x])) { s with heap:=g',toks:=s.toks+1 }:=by
   refine Lp I (fp:=[e,it]) (fun c o hc e=>kp' c o (fun x=>hc (by simp [x])) (fun x=>hc (by simp [x])) e) hf (Nat.le_refl _) ?_
   exact ⟨by show 2≤sizeLine;decide,[.int i s.toks,u],.cons ⟨_,rfl⟩ (.cons ru .nil),⟨_,a5',rfl,_,rfl⟩⟩
  refine ⟨.ref s.heap.objs.size,_,I1,rfl,⟨_,x,rfl,hfr,rfl,fun zs hz=>by rw [Vp (kd:=true) I hz q1];exact e1⟩,?_,?_⟩
  ·obtain ⟨o,e2,r⟩:=hit
   exact ⟨⟨_,by have:=z';simpa using this⟩,⟨o,s'.extBut _ _ (Ne.symm hei) e2,r⟩⟩
  ·intro c hc
   have hlt:c<s.heap.objs.size:=by
    have hc:c=e∨c=it:=by simpa using hc
    rcases hc with rfl|rfl
    ·exact elt
    ·exact ilt
   rw [Ak (Nat.ne_of_lt hlt)]
   exact (hf c hc).1
 done:=by
  intro X hP hw hK hc i pins s σ H E I hf Z hg
  subst hP hw hK
  obtain ⟨xs,q1,e⟩:=hg
  obtain ⟨us,r1,p1⟩:=F6 (kd:=true) I q1
  have l1:=r1.length
  obtain ⟨old,he⟩:=Z.e
  have hn:us.toArray[i]? =none:=by
   simp
   omega
  refine wpAny_pyNext_enum_end (I.ok.hd hc) he Z.a (show s.heap.IsList a us.toArray from p1) hn fun g kp=>⟨rfl,?_⟩
  refine G9 I (fp:=[it]) (fun c o hc e=>kp c o (fun x=>hc (by simp [x])) e) ?_
  intro c hc
  exact hf c (by simp at hc ⊢;exact .inr hc)
 self:=fun _ _ _ _ _ Z h=>by
  obtain ⟨old,he⟩:=Z.e
  exact wpAny_pyIter_enum he h
def Akb (K:PySem.W.Frag)(ta:TA):TI:=fun σ H R=>ta σ H fun vs H1=>match vs with
 |[.ref a]=>(∃xs,Ay K H1 a xs)∧R (Ite K a) H1
 |_=>False
theorem X0:bootBuiltins "enumerate"=some (.type "enumerate"):=by decide +kernel
theorem Acz {a:Expr}{ta:TA}{p pos:Pos}{es:List Expr}{x1}{tp:Pos}(hg:Gl X "enumerate")(hm:X.mg "enumerate"=none)(ha:PA X [a] ta)(hs:starEach [a] X.env=[(false,eval a X.env)]:=by rfl) :
  PI X (.Tuple es x1 tp) (.Call (.Name "enumerate" p) [a] [] pos) (Akb X.K ta):=by
 intro pins s σ H R I h
 refine Call_ (E6 I hg hm X0 (PyProof.Rows.callWith_type1 (thn (ha pos pins s σ H _ I h) fun us s1 ⟨vs,H1,I1,r1,q1⟩=>?_) hs rfl))
 match vs,q1 with
 | [.ref l],⟨⟨xs,hx⟩,q⟩=>
  obtain ⟨u,rfl,e1⟩:=K1 r1
  cases (show u=Value.ref l from e1)
  obtain ⟨us',_,p1⟩:=F6 (kd:=true) I1 hx
  refine call_enumerate_list (show s1.heap.IsList l us'.toArray from p1) fun g Z Zi hz kp=>wpAny_pyIter_enum (s:={ s1 with heap:=g }) Z ?_
  have I2:Ar X pins σ H1 { s1 with heap:=g }:=I1.kept (t':=s1.toks) kp
  refine ⟨_,[s1.heap.objs.size+1,s1.heap.objs.size],_,_,H1,rfl,I2,X8 (a:=l) (by show @Ne Nat _ _;omega),⟨⟨_,Z⟩,Zi⟩,fun c hc=>?_,q⟩
  have hc:@LE.le Nat _ s1.heap.objs.size c:=by
   have hc:c=s1.heap.objs.size+1∨c=s1.heap.objs.size:=by simpa using hc
   rcases hc with h|h<;>rw [h]<;>first|exact Nat.le_refl _|exact Nat.le_add_right _ _
  exact I1.fpOk hc (I1.hok.fresh hc)
theorem Abe {K:PySem.W.Frag}{a:Addr}{xs:List V}{g:TG}{tb:TS}{D:Rq}{σ:L2.St}{H:Hp}(Pv:Nat→L2.St→Hp→Prop)(h0:Pv 0 σ H)(hl:∀i σ H,Pv i σ H→Ay K H a xs)
  (hs:∀i x t σ H,xs[i]? =some x→H t=none→Pv i σ H→g (.ref t) σ (upd H t (.tup [.int ((i:Nat):Int),x])) fun σ2 H2=>tb { D with nx:=Pv (i+1),ct:=Pv (i+1),bk:=D.nx } σ2 H2) (hd:∀σ H,Pv xs.length σ H→D.nx σ H) :
  ∃W:Nat→Nat→L2.St→Hp→Prop,(∃m,W 0 m σ H)∧∀i m σ H,W i m σ H →
   ((Ite K a).stop i H∧D.nx σ H)∨((Ite K a).go i H∧∃N:L2.St→Hp→Prop,(∀σ' H',N σ' H'→∃m',m'<m∧W (i+1) m' σ' H')∧∀x H',(Ite K a).yld i H x H'→g x σ H' fun σ2 H2=>tb { D with nx:=N,ct:=N,bk:=D.nx } σ2 H2):=by
 refine ⟨fun i m σ H=>m=xs.length-i∧i≤xs.length∧Pv i σ H,⟨xs.length,by simp,Nat.zero_le _,h0⟩,?_⟩
 rintro i m σ H ⟨rfl,hi,p⟩
 have q1:=hl i σ H p
 by_cases hlt:i<xs.length
 ·have e1:xs[i]? =some xs[i]:=by simp [hlt]
  refine .inr ⟨⟨xs,_,q1,e1⟩,Pv (i+1),fun σ' H' p'=>⟨xs.length-(i+1),by omega,rfl,hlt,p'⟩,fun v H' y=>?_⟩
  obtain ⟨t,x,rfl,ht,rfl,y1⟩:=y
  exact hs i x t σ H (y1 xs q1) ht p
 ·have e:i=xs.length:=by omega
  subst e
  exact .inl ⟨⟨xs,q1,Nat.le_refl _⟩,hd σ H p⟩
end
end Lw
end
section
set_option autoImplicit false
namespace Lw
open PySem PySem.Spec PyProof.Rows L2
structure B0 (K:PySem.W.Frag)(Cs Ds:List Addr)(m qual:Str)(st:Stmt)(ps:List Str):Prop where
 ex:∃(f:Addr) (fd:FuncData),Fun K m qual st f fd∧(∀C∈Cs,Aaa K C m f)∧(∀C∈Ds,PySem.W.findCls K (.ref C) (.type "type") m=some (.val (.ref f)))∧Gh K fd ps []
structure Be (P:Program)(w:World)(K:PySem.W.Frag)(mg:Str→Option Value)(base:Heap)(Cs Ds:List Addr)(m:Str)(ps:List Str)(k:Nat)(sp:Sp):Prop where
 ex:∃(f:Addr) (fd:FuncData),(∀C∈Cs,Aaa K C m f)∧(∀C∈Ds,PySem.W.findCls K (.ref C) (.type "type") m=some (.val (.ref f)))∧PySem.W.keepIn K (.ref f)=true∧Gh K fd ps []∧He P w K mg base (M4 P w) k f fd ps sp
section
variable {P:Program}{w:World}{K:PySem.W.Frag}{mg:Str→Option Value}{base:Heap}{Cs Ds:List Addr}
theorem B0.calX {m qual:Str}{st:Stmt}{N ps:List Str}{k:Nat}{sp:Sp}(d:B0 K Cs Ds m qual st ps)(S:Al N ps (Af st))(len:∀vs H Q E,sp vs H Q E→vs.length=ps.length)
  (hbody:∀(f:Addr) (cdv:Value) (A:Around) (outer:List Env) (s:Shared) (H:Hp) (vs:List V) (Q:VK) (E:XK),B7 k (A.deeper (envOfC qual (Af st) s.heap.objs.size f cdv))→sp vs H Q E →
   ∃t,Mg (Ht (M4 P w) P w K mg base N qual (Af st) f cdv A outer s H E) (Bz st) t∧t { nx:=fun _ H'=>Q .non H',rt:=Q } (Gg N vs) H):Be P w K mg base Cs Ds m ps (k+1) sp:=by
 obtain ⟨f,fd,F,hm,hd,hb⟩:=d.ex
 obtain ⟨oc,od,kV,doc,pm,an,cdv,ct,osl,rfl,lk,hcd⟩:=F.ex
 exact ⟨f,_,hm,hd,F.kp,hb,Acd lk hcd S len fun A outer s H vs Q E hr hsp=>hbody f cdv A outer s H vs Q E hr hsp⟩
theorem B0.cal {m qual:Str}{st:Stmt}{N ps:List Str}{k:Nat}{sp:Sp}(d:B0 K Cs Ds m qual st ps)(S:Al N ps (Af st))(len:∀vs H Q E,sp vs H Q E→vs.length=ps.length)
  (hbody:∀(f:Addr) (cdv:Value) (A:Around) (outer:List Env) (s:Shared) (H:Hp) (vs:List V) (Q:VK) (E:XK),B7 k (A.deeper (envOfC qual (Af st) s.heap.objs.size f cdv))→sp vs H Q E →
   ∃t,Mg (Ht (M4 P w) P w K mg base N qual (Af st) f cdv A outer s H E).nox (Bz st) t∧t { nx:=fun _ H'=>Q .non H',rt:=Q } (Gg N vs) H):Be P w K mg base Cs Ds m ps (k+1) sp:=
 d.calX S len fun f cdv A outer s H vs Q E hr hsp=>by
  obtain ⟨t,h,q⟩:=hbody f cdv A outer s H vs Q E hr hsp
  exact ⟨t,h.nox,q⟩
def MV (P:Program)(w:World)(K:PySem.W.Frag)(mg:Str→Option Value)(base:Heap)(m:Str)(k:Nat)(T:List (Addr×Sp)):Prop:=
 ∀p∈T,∃(f:Addr) (fd:FuncData) (ps:List Str),Iq K p.1∧Aaa K p.1 m f∧Gh K fd ps []∧He P w K mg base (M4 P w) k f fd ps p.2
theorem B3 {m:Str}{k:Nat}:MV P w K mg base m k []:=fun p hp=>by cases hp
theorem Az {C:Addr}{m:Str}{ps:List Str}{k k':Nat}{sp:Sp}{T:List (Addr×Sp)}(c:Be P w K mg base Cs Ds m ps k sp)(hC:C∈Cs)(cl:Iq K C)(hk:k≤k')(r:MV P w K mg base m k' T):MV P w K mg base m k' ((C,sp)::T):=fun p hp=>by
 rcases List.mem_cons.mp hp with rfl|hp
 ·obtain ⟨f,fd,h1,_,_,h3,h4⟩:=c.ex
  exact ⟨f,fd,ps,cl,h1 C hC,h3,h4.mono hk⟩
 ·exact r p hp
end
def Qh (T:List (Addr×Sp))(m:Str)(E:XK)(ta:TE)(t:TA):TE:=fun σ H Q=>ta σ H fun x H1=>∃a C dx fs sp,x=.ref a∧H1 a=some (.ins C dx fs)∧(C,sp)∈T∧fs.lookup m=none∧t σ H1 fun vs H2=>sp (.ref a::vs) H2 Q E
structure MkC (K:PySem.W.Frag)(C:Addr):Prop where
 makes:PySem.W.makesIn K C=true
 kp:PySem.W.keepIn K (.ref C)=true
structure RdC (K:PySem.W.Frag)(C:Addr):Prop where
 reads:PySem.W.readsIn K C (.type "type")=true
 ga:PySem.W.specialIn K (.ref C) "__getattribute__"=some (some (.builtin "type.__getattribute__"))
def V9 (C:Addr)(sp:Sp)(E:XK)(t:TA):TE:=fun σ H Q=>t σ H fun vs H1=>∀x dx,H1 x=none→H1 dx=none→dx≠x →
 sp (.ref x::vs) (upd (upd H1 dx (.own x)) x (.ins C dx [])) (fun v H2=>v=.non∧Q (.ref x) H2) E
theorem Zw (C:Addr)(sp:Sp)(E:XK)(t:TA):V9 C sp E t=Z4 C sp [] E t:=by
 funext σ H Q
 unfold V9 Z4
 simp only [List.append_nil]
section
variable {X:Cx}{pos p:Pos}{Cs Ds:List Addr}{E:XK}
theorem Ai8 {o e:Expr}{es:List Expr}{ta:TE}{t:TA}{T:List (Addr×Sp)}{m:Str}{k:Nat}{apos:Pos}{pl:Sem Bool}(he:PE X o ta)(hT:MV X.prog X.w X.K X.mg X.base m k T)(hr:B7 k X.A)(hx:F2 (M4 X.prog X.w) X E)(ha:PA X (e::es) t)
  (hst:starEach (e::es) X.env=(false,eval e X.env)::starEach es X.env) (hpl:(backTo pos (starEach es X.env)).any (·.1)=false)
  (ht:eval (.Call (.Attribute o m apos) (e::es) [] pos) X.env=(do
   let ov ←eval o X.env
   standAt apos.atName
   let (f,first) ←holding [ov] (getMethod ov m pl)
   callWith pos f first (backTo pos (starEach (e::es) X.env)) (backToKw pos (keywordEach [] X.env)))) :
  PE X (.Call (.Attribute o m apos) (e::es) [] pos) (Qh T m E ta t):=by
 intro pins s σ H Q I h
 refine PySem.W.methodCall_KW (pl:=pl) (thn (he pins s σ H _ I h) fun u s1 ⟨x,H1,I1,rx,a,C,dx,fs,sp,ex,ea,hC,l,q⟩=>?_) ht
 subst ex
 obtain rfl:u=Value.ref a:=rx
 obtain ⟨f,fd,ps,c,hm,hb,F⟩:=hT _ hC
 refine Mz I1 ea c hm l ?_
 refine PySem.W.callWith_K (first:=[.ref a]) (h₀:=X.base) I.ok.mod.kin hm.kp (thn (ha pos pins s1 σ H1 _ I1 q) fun us s2 ⟨vs,H2,I2,r,q2⟩=>⟨I2.kIn,?_⟩) hst hpl
 exact Qw (us:=.ref a::us) (vs:=.ref a::vs) (dvs:=[]) F hr hb .nil hx I2 (.cons rfl r) (by rw [List.append_nil];exact q2)
theorem Agp {o:Expr}{ta:TE}{T:List (Addr×Sp)}{m:Str}{k:Nat}{apos:Pos}{pl:Sem Bool}(he:PE X o ta)(hT:MV X.prog X.w X.K X.mg X.base m k T)(hr:B7 k X.A)(hx:F2 (M4 X.prog X.w) X E)
  (ht:eval (.Call (.Attribute o m apos) [] [] pos) X.env=(do
   let ov ←eval o X.env
   standAt apos.atName
   let (f,first) ←holding [ov] (getMethod ov m pl)
   callWith pos f first (backTo pos (starEach [] X.env)) (backToKw pos (keywordEach [] X.env)))) :
  PE X (.Call (.Attribute o m apos) [] [] pos) (Qh T m E ta Aef):=by
 intro pins s σ H Q I h
 refine PySem.W.methodCall_KW (pl:=pl) (thn (he pins s σ H _ I h) fun u s1 ⟨x,H1,I1,rx,a,C,dx,fs,sp,ex,ea,hC,l,q⟩=>?_) ht
 subst ex
 obtain rfl:u=Value.ref a:=rx
 obtain ⟨f,fd,ps,c,hm,hb,F⟩:=hT _ hC
 refine Mz I1 ea c hm l ?_
 exact PySem.W.callWith_K0 (first:=[.ref a]) I1.kIn hm.kp (Qw (us:=[.ref a]) (vs:=[.ref a]) (dvs:=[]) F hr hb .nil hx I1 (.cons rfl .nil) q)
theorem Dr {o e:Expr}{es:List Expr}{ta:TE}{t:TA}{T:List (Addr×Sp)}{m:Str}{k:Nat}{apos:Pos}{pl:Sem Bool}(he:PE X o ta)(hT:MV X.prog X.w X.K X.mg X.base m k T)(hr:B7 k X.A)(ha:PA X (e::es) t)
  (hst:starEach (e::es) X.env=(false,eval e X.env)::starEach es X.env:=by rfl) (hpl:(backTo pos (starEach es X.env)).any (·.1)=false:=by rfl)
  (ht:eval (.Call (.Attribute o m apos) (e::es) [] pos) X.env=(do
   let ov ←eval o X.env
   standAt apos.atName
   let (f,first) ←holding [ov] (getMethod ov m pl)
   callWith pos f first (backTo pos (starEach (e::es) X.env)) (backToKw pos (keywordEach [] X.env))):=by rfl) :
  PE X (.Call (.Attribute o m apos) (e::es) [] pos) (Qh T m E0 ta t):=Ai8 he hT hr Mo ha hst hpl ht
theorem Cl {o:Expr}{ta:TE}{T:List (Addr×Sp)}{m:Str}{k:Nat}{apos:Pos}{pl:Sem Bool}(he:PE X o ta)(hT:MV X.prog X.w X.K X.mg X.base m k T)(hr:B7 k X.A)
  (ht:eval (.Call (.Attribute o m apos) [] [] pos) X.env=(do
   let ov ←eval o X.env
   standAt apos.atName
   let (f,first) ←holding [ov] (getMethod ov m pl)
   callWith pos f first (backTo pos (starEach [] X.env)) (backToKw pos (keywordEach [] X.env))):=by rfl) :
  PE X (.Call (.Attribute o m apos) [] [] pos) (Qh T m E0 ta Aef):=Agp he hT hr Mo ht
theorem Aju {x:Str}{C:Addr}{ps:List Str}{k k':Nat}{sp:Sp}{e:Expr}{es:List Expr}{t:TA}(c:Be X.prog X.w X.K X.mg X.base Cs Ds "__init__" ps k sp)(hC:C∈Cs)(M:MkC X.K C)(hr:B7 k' X.A)(hk:k+1≤k')(hg:Gl X x)(hm:X.mg x=some (.ref C))(hx:F2 (M4 X.prog X.w) X E)
  (ha:PA X (e::es) t) (hdb:(x==("__debug__":Str))=false) (he:starEach (e::es) X.env=(false,eval e X.env)::starEach es X.env) (hpl:(backTo pos (starEach es X.env)).any (·.1)=false) :
  PE X (.Call (.Name x p) (e::es) [] pos) (V9 C sp E t):=by
 obtain ⟨f,fd,h1,_,_,h3,h4⟩:=c.ex
 rw [Zw]
 exact Ad6 ⟨M.makes,(h1 C hC).at_,(h1 C hC).fn,M.kp⟩ h4 (hr.mono hk) hg hm h3 .nil hx ha hdb he hpl
theorem Fg {x:Str}{C:Addr}{ps:List Str}{k k':Nat}{sp:Sp}{e:Expr}{es:List Expr}{t:TA}(c:Be X.prog X.w X.K X.mg X.base Cs Ds "__init__" ps k sp)(hC:C∈Cs)(M:MkC X.K C)(hr:B7 k' X.A)(hk:k+1≤k')(hg:Gl X x)(hm:X.mg x=some (.ref C))
  (ha:PA X (e::es) t) (hdb:(x==("__debug__":Str))=false:=by decide) (he:starEach (e::es) X.env=(false,eval e X.env)::starEach es X.env:=by rfl) (hpl:(backTo pos (starEach es X.env)).any (·.1)=false:=by rfl) :
  PE X (.Call (.Name x p) (e::es) [] pos) (V9 C sp E0 t):=Aju c hC M hr hk hg hm Mo ha hdb he hpl
theorem Alm {x m:Str}{C:Addr}{ps:List Str}{k k':Nat}{sp:Sp}{e:Expr}{es:List Expr}{t:TA}{apos:Pos}{pl:Sem Bool}(c:Be X.prog X.w X.K X.mg X.base Cs Ds m ps k sp)(hC:C∈Ds)(R:RdC X.K C)(hr:B7 k' X.A)(hk:k≤k')(hg:Gl X x)(hm:X.mg x=some (.ref C))(hx:F2 (M4 X.prog X.w) X E)
  (ha:PA X (e::es) t) (hdb:(x==("__debug__":Str))=false) (hst:starEach (e::es) X.env=(false,eval e X.env)::starEach es X.env) (hpl:(backTo pos (starEach es X.env)).any (·.1)=false)
  (ht:eval (.Call (.Attribute (.Name x p) m apos) (e::es) [] pos) X.env=(do
   let ov ←eval (.Name x p) X.env
   standAt apos.atName
   let (f,first) ←holding [ov] (getMethod ov m pl)
   callWith pos f first (backTo pos (starEach (e::es) X.env)) (backToKw pos (keywordEach [] X.env)))) :
  PE X (.Call (.Attribute (.Name x p) m apos) (e::es) [] pos) (Wa sp [] E t):=by
 intro pins s σ H Q I h
 obtain ⟨f,fd,_,h2,hkp,h3,h4⟩:=c.ex
 refine PySem.W.methodCall_KW (pl:=pl) (Jr I hg hm ?_ hdb) ht
 refine PySem.W.method_cls I.kIn R.ga (PySem.W.cls_value I.kIn R.reads (h2 C hC) rfl ?_)
 have I1:=I.tok (s.toks+1)
 refine PySem.W.callWith_K (first:=[]) (h₀:=X.base) I.ok.mod.kin hkp (thn (ha pos pins _ σ H _ I1 h) fun us s2 ⟨vs,H2,I2,r,q2⟩=>⟨I2.kIn,?_⟩) hst hpl
 exact Qw (us:=us) (vs:=vs) (h4.mono hk) hr h3 .nil hx I2 r q2
theorem Vj {x m:Str}{C:Addr}{ps:List Str}{k k':Nat}{sp:Sp}{e:Expr}{es:List Expr}{t:TA}{apos:Pos}{pl:Sem Bool}(c:Be X.prog X.w X.K X.mg X.base Cs Ds m ps k sp)(hC:C∈Ds)(R:RdC X.K C)(hr:B7 k' X.A)(hk:k≤k')(hg:Gl X x)(hm:X.mg x=some (.ref C))
  (ha:PA X (e::es) t) (hdb:(x==("__debug__":Str))=false:=by decide) (hst:starEach (e::es) X.env=(false,eval e X.env)::starEach es X.env:=by rfl) (hpl:(backTo pos (starEach es X.env)).any (·.1)=false:=by rfl)
  (ht:eval (.Call (.Attribute (.Name x p) m apos) (e::es) [] pos) X.env=(do
   let ov ←eval (.Name x p) X.env
   standAt apos.atName
   let (f,first) ←holding [ov] (getMethod ov m pl)
   callWith pos f first (backTo pos (starEach (e::es) X.env)) (backToKw pos (keywordEach [] X.env))):=by rfl) :
  PE X (.Call (.Attribute (.Name x p) m apos) (e::es) [] pos) (W8 sp t):=by
 rw [R6]
 exact Alm c hC R hr hk hg hm Mo ha hdb hst hpl ht
structure IsC (K:PySem.W.Frag)(C:Addr):Prop where
 ha:PySem.W.findIn K (.ref C) "__class__"=some (some (.builtin "object.__class__"))
 hn:PySem.W.specialIn K (.builtin "object.__class__") "__get__"=some (some (.builtin "getset_descriptor.__get__"))
 ht:PySem.W.takesIn K (.builtin "object.__class__")=some true
 hm:PySem.W.mroIn K C (.type "object")=some true
theorem ac_nil {p:Addr→Prop}:∀C∈([]:List Addr),p C:=fun _ h=>by cases h
theorem ac_cons {p:Addr→Prop}{c:Addr}{l:List Addr}(h:p c)(r:∀C∈l,p C):∀C∈c::l,p C:=fun C hC=>by
 rcases List.mem_cons.mp hC with rfl|hC
 ·exact h
 ·exact r C hC
end
end Lw
end
set_option maxHeartbeats 0
set_option exponentiation.threshold 5000
namespace My
open PySem PySem.Spec PyProof.Rows L2 Lw
local macro_rules | `(tactic| walk_at "hp")=>`(tactic| first | assumption | (refine sm_at (by assumption) ?_; walk_at "hp") | (refine sm_sq (by assumption) ?_; walk_at "hp") | (refine Fq.up (by assumption) ?_; walk_at "hp") | (refine Pq.up (by assumption) ?_; walk_at "hp"))
def D4 (i:Nat):Stmt:=PySem.Challenge.pw_ladderworth_k56_whole_the_book_alone.main.body.getD i (.Pass ⟨0,0,0,0⟩)
abbrev Hz:Stmt:=D4 8
abbrev Hu:Stmt:=D4 9
abbrev Cr:Stmt:=D4 10
abbrev Vg:Stmt:=D4 11
abbrev P1:Stmt:=D4 12
abbrev Rk:Stmt:=D4 13
abbrev F3:Stmt:=D4 15
abbrev F9:Stmt:=D4 19
abbrev Cp:Stmt:=D4 20
abbrev J6:Stmt:=D4 21
abbrev Qp:Stmt:=D4 23
abbrev Gw:Stmt:=D4 24
abbrev E8:Stmt:=D4 25
abbrev Uv:Stmt:=D4 26
abbrev Kq:Stmt:=D4 27
abbrev C1:Stmt:=Bt (D4 29) 0
abbrev F7:Stmt:=Bt (D4 29) 1
abbrev Fb:Stmt:=Bt (D4 29) 2
abbrev Ek:Stmt:=Bt (D4 29) 3
abbrev Eb:Stmt:=Bt (D4 29) 4
abbrev J8:Stmt:=D4 30
abbrev Me:Stmt:=D4 31
abbrev Hn:Stmt:=D4 37
abbrev Ly:Stmt:=D4 38
abbrev J0:Stmt:=D4 39
abbrev Ho:Stmt:=D4 40
abbrev Ki:Stmt:=D4 41
abbrev Er:Stmt:=D4 42
abbrev D9:Stmt:=Bt (D4 43) 0
abbrev Gz:Stmt:=Bt (D4 43) 1
abbrev Ig:Stmt:=Bt (D4 43) 2
abbrev Gs:Stmt:=Bt (D4 43) 3
abbrev Dk:Stmt:=Bt (D4 44) 0
abbrev Fv:Stmt:=Bt (D4 44) 1
abbrev Gd:Stmt:=Bt (D4 44) 2
abbrev C8:Stmt:=Bt (D4 45) 0
abbrev Fc:Stmt:=Bt (D4 45) 1
abbrev E5:Stmt:=Bt (D4 45) 2
abbrev C6:Stmt:=Bt (D4 46) 0
abbrev Fw:Stmt:=Bt (D4 46) 1
abbrev E7:Stmt:=Bt (D4 46) 2
abbrev Gq:Stmt:=D4 47
abbrev Abd:Stmt:=D4 48
abbrev No:Stmt:=D4 50
abbrev Jy:Stmt:=D4 51
abbrev Lo:Stmt:=D4 52
abbrev Ii:Stmt:=D4 53
abbrev M6:Stmt:=D4 54
abbrev M8:Stmt:=D4 55
abbrev Gc:Stmt:=D4 56
abbrev Rf:Stmt:=D4 57
abbrev J2:Stmt:=D4 58
abbrev Hm:Stmt:=D4 59
structure Bg (K:PySem.W.Frag)(mg:Str→Option Value)(c_Capped c_Early c_Ledger c_NoTable c_Rested c_Rule:Addr):Prop where
 b_Capped:mg "Capped"=some (.ref c_Capped)
 b_Early:mg "Early"=some (.ref c_Early)
 b_Ledger:mg "Ledger"=some (.ref c_Ledger)
 b_NoTable:mg "NoTable"=some (.ref c_NoTable)
 b_Rested:mg "Rested"=some (.ref c_Rested)
 b_Rule:mg "Rule"=some (.ref c_Rule)
 y_NoTable:PySem.W.nsIn K mainGlobals "NoTable"=some (some (.ref c_NoTable))
 x_NoTable:Ajb K c_NoTable
 y_Capped:PySem.W.nsIn K mainGlobals "Capped"=some (some (.ref c_Capped))
 l_Capped:Iq K c_Capped
 m_Capped:MkC K c_Capped
 na_Capped_cap:NoAttr K c_Capped "cap"
 na_Capped_first:NoAttr K c_Capped "first"
 na_Capped_step:NoAttr K c_Capped "step"
 na_Capped_table:NoAttr K c_Capped "table"
 y_Early:PySem.W.nsIn K mainGlobals "Early"=some (some (.ref c_Early))
 l_Early:Iq K c_Early
 m_Early:MkC K c_Early
 na_Early_early:NoAttr K c_Early "early"
 na_Early_first:NoAttr K c_Early "first"
 na_Early_many:NoAttr K c_Early "many"
 na_Early_step:NoAttr K c_Early "step"
 na_Early_table:NoAttr K c_Early "table"
 y_Ledger:PySem.W.nsIn K mainGlobals "Ledger"=some (some (.ref c_Ledger))
 l_Ledger:Iq K c_Ledger
 m_Ledger:MkC K c_Ledger
 na_Ledger_kept:NoAttr K c_Ledger "kept"
 na_Ledger_last:NoAttr K c_Ledger "last"
 na_Ledger_rule:NoAttr K c_Ledger "rule"
 y_Rested:PySem.W.nsIn K mainGlobals "Rested"=some (some (.ref c_Rested))
 l_Rested:Iq K c_Rested
 m_Rested:MkC K c_Rested
 na_Rested_first:NoAttr K c_Rested "first"
 na_Rested_pause:NoAttr K c_Rested "pause"
 na_Rested_step:NoAttr K c_Rested "step"
 na_Rested_table:NoAttr K c_Rested "table"
 na_Rested_times:NoAttr K c_Rested "times"
 y_Rule:PySem.W.nsIn K mainGlobals "Rule"=some (some (.ref c_Rule))
 l_Rule:Iq K c_Rule
 m_Rule:MkC K c_Rule
 r_Rule:RdC K c_Rule
 na_Rule_first:NoAttr K c_Rule "first"
 na_Rule_step:NoAttr K c_Rule "step"
 na_Rule_table:NoAttr K c_Rule "table"
section
variable {P:Program}{w:World}{K:PySem.W.Frag}{mg:Str→Option Value}{base:Heap}{ns:List Int}
variable {c_Capped c_Early c_Ledger c_NoTable c_Rested c_Rule:Addr}{a_FIRST_ROW:Addr}{b_FIRST_ROW_1:Addr}
--@thinall
theorem nb {P:Prop}{a b:Bool}(h:a=b)(n:(a==b)=false:=by rfl):P:=by
 subst h
 rw [beq_self_eq_true] at n
 cases n
def wh:V→Bool
 |.int _=>true
 |_=>false
def Kd (H:Hp):V→Prop
 |.int _=>True
 |.bl _=>True
 |.non=>True
 |.str _=>True
 |.ref p=>∃u t,H p=some u∧Adc u=some t∧Zv t "int"=some false
 |_=>False
theorem Kd.up {H H':Hp}(s:Ah H H'):∀{v:V},Kd H v→Kd H' v
 |.int _,h=>h
 |.bl _,h=>h
 |.non,h=>h
 |.str _,h=>h
 |.ref p,⟨u,t,h1,h2⟩=>⟨u,t,s _ _ h1,h2⟩
 |.flt _,h=>h.elim
 |.byt _,h=>h.elim
 |.ty _,h=>h.elim
def ExN (K:PySem.W.Frag)(x:Str)(E:XK)(H:Hp):Prop:=∀C,PySem.W.nsIn K mainGlobals x=some (some (.ref C))→E (.ref C) none H
def G5 (K:PySem.W.Frag)(ns:List Int):Sp:=fun vs H Q _=>match vs with
 |[v]=>Kd H v∧Q (.bl (wh v)) H
 |_=>False
theorem Tn:Al ["thing"] ["thing"] (Af Hz):=⟨rfl,rfl,rfl,by decide +kernel,rfl,by decide +kernel,by decide +kernel⟩
theorem S6 (d:B8 K mg "is_whole" Hz ["thing"])(er:Bg K mg c_Capped c_Early c_Ledger c_NoTable c_Rested c_Rule)(n_isinstance:mg "isinstance"=none)(n_bool:mg "bool"=none)(n_int:mg "int"=none)  :Bm P w K mg base "is_whole" ["thing"] 1 (G5 K ns):=by
 refine d.cal (k:=0) Tn (fun vs H Q E h=>?_) (fun f cdv A outer s H vs Q E hr h=>?_)
 ·match vs,h with
  |[_],_=>rfl
 ·refine ⟨_,(@Ag _ _ _ (@Aq _ _ _ _ (@Hg _ _ _ _ _ _ _ (@Aw _ _ _ _ _ _ _ _ _ Wg (by rfl) n_isinstance (by decide +kernel) (@Aa _ _ _ _ _ (dv 0) (@Aa _ _ _ _ _ (Ac0 "int" (by rfl) n_int (by decide +kernel)) Ac (by rfl)) (by rfl)) (by decide) (by decide) (by rfl) (by rfl)) (@Il _ _ _ _ _ (@Ae9 _ _ _ _ (@Aw _ _ _ _ _ _ _ _ _ Wg (by rfl) n_isinstance (by decide +kernel) (@Aa _ _ _ _ _ (dv 0) (@Aa _ _ _ _ _ (Ac0 "bool" (by rfl) n_bool (by decide +kernel)) Ac (by rfl)) (by rfl)) (by decide) (by decide) (by rfl) (by rfl))))))),?_⟩
  match vs,h with
  |[.int _],⟨_,q⟩=>exact ⟨true,rfl,fun _=>⟨false,rfl,q⟩,fun h=>absurd h (by decide)⟩
  |[.bl _],⟨_,q⟩=>exact ⟨true,rfl,fun _=>⟨true,rfl,q⟩,fun h=>absurd h (by decide)⟩
  |[.non],⟨_,q⟩=>exact ⟨false,rfl,fun h=>absurd h (by decide),fun _=>q⟩
  |[.str _],⟨_,q⟩=>exact ⟨false,rfl,fun h=>absurd h (by decide),fun _=>q⟩
  |[.ref _],⟨⟨u,t,h1,h2,h3⟩,q⟩=>exact ⟨u,false,t,h1,h2,h3,fun h=>absurd h (by decide),fun _=>q⟩
  |[.flt _],⟨z,_⟩=>exact z.elim
  |[.byt _],⟨z,_⟩=>exact z.elim
  |[.ty _],⟨z,_⟩=>exact z.elim
def Ee (K:PySem.W.Frag)(ns:List Int):Sp:=fun vs H Q _=>match vs with
 |[.int x,.int y]=>Q (.int (Int.gcd x y:Int)) H
 |_=>False
theorem By:Al ["one","other","rest"] ["one","other"] (Af Cr):=⟨rfl,rfl,rfl,by decide +kernel,rfl,by decide +kernel,by decide +kernel⟩
theorem Hf (d:B8 K mg "greatest_divisor" Cr ["one","other"])(er:Bg K mg c_Capped c_Early c_Ledger c_NoTable c_Rested c_Rule)(n_abs:mg "abs"=none)  :Bm P w K mg base "greatest_divisor" ["one","other"] 1 (Ee K ns):=by
 refine d.cal (k:=0) By (fun vs H Q E h=>?_) (fun f cdv A outer s H vs Q E hr h=>?_)
 ·match vs,h with
  |[.int x,.int y],_=>rfl
 ·match vs,h with
  | [.int x,.int y],hq0=>
   have q:=hq0
   refine ⟨_,(@Ae _ _ _ _ _ (@Qx _ _ _ _ _ _ PassesOwn.never (@Bv _ _ _ _ _ _ _ _ Alx (dv 1) Ab (@A5 _ _ (by decide) (by decide))) (@Ae _ _ _ _ _ (@Au _ _ (2) _ _ _ _ By.nd rfl (by trivial) (@Aj _ _ _ _ _ _ _ _ Aic (dv 0) (dv 1)) (by rfl) (by trivial)) (@Ae _ _ _ _ _ (@Au _ _ (0) _ _ _ _ By.nd rfl (by trivial) (dv 1) (by rfl) (by trivial)) (@Ag _ _ _ (@Au _ _ (1) _ _ _ _ By.nd rfl (by trivial) (dv 2) (by rfl) (by trivial)))))) (@Ag _ _ _ (@Aq _ _ _ _ (@Aw _ _ _ _ _ _ _ _ _ Ajz (by rfl) n_abs (by decide +kernel) (@Aa _ _ _ _ _ (dv 0) Ac (by rfl)) (by decide) (by decide) (by rfl) (by rfl))))),?_⟩
   refine ⟨fun m σ H'=>∃a b o,σ=[some (.int a),some (.int b),o]∧H'=H∧Int.gcd a b=Int.gcd x y∧m=b.natAbs,⟨_,x,y,none,rfl,rfl,rfl,rfl⟩,?_⟩
   rintro m σ H' ⟨a,b,o,rfl,rfl,g,rfl⟩
   refine ⟨fun h=>?_,fun h=>?_⟩
   ·have hb:¬b=0:=by simpa using h
    refine ⟨hb,?_⟩
    exact ⟨(a.fmod b).natAbs,Aeo a hb,b,a.fmod b,_,rfl,rfl,by rw [Y5,g],rfl⟩
   ·have hb:b=0:=by simpa using h
    subst hb
    have e:(Int.gcd x y:Int)=(a.natAbs:Int):=by
     rw [←g,Int.gcd_zero_right]
    have q:Q (.int (Int.gcd x y:Int)) H':=q
    rw [e] at q
    exact q
def Dw (K:PySem.W.Frag)(ns:List Int):Sp:=fun vs H Q _=>match vs with
 |[.int t,.int b]=>(b≠0∧Bd 4000 b)∧∀p H',Ah H H'→Yo H' p t b→Q (.ref p) H'
 |_=>False
theorem Gn:Al ["top","bottom","divisor"] ["top","bottom"] (Af Hu):=⟨rfl,rfl,rfl,by decide +kernel,rfl,by decide +kernel,by decide +kernel⟩
theorem Uc (d:B8 K mg "fraction" Hu ["top","bottom"])(er:Bg K mg c_Capped c_Early c_Ledger c_NoTable c_Rested c_Rule)   (c_greatest_divisor:Bm P w K mg base "greatest_divisor" ["one","other"] 1 (Ee K ns))(c_is_whole:Bm P w K mg base "is_whole" ["thing"] 1 (G5 K ns)):Bm P w K mg base "fraction" ["top","bottom"] 2 (Dw K ns):=by
 refine d.cal (k:=1) Gn (fun vs H Q E h=>?_) (fun f cdv A outer s H vs Q E hr h=>?_)
 ·match vs,h with
  |[.int t,.int b],_=>rfl
 ·match vs,h with
  | [.int t,.int b],hq0=>
   obtain ⟨⟨b0,b1⟩,q⟩:=hq0
   refine ⟨_,(@Ae _ _ _ _ _ (@D8 _ _ _ _ _ _ _ _ (@L2.PW.pt _ _ _ (@Xr _ _ _ _ _ _ _ (@D7 _ _ _ _ (@Ft _ _ _ (@An _ _ _ _ _ _ _ _ _ _ _ c_is_whole hr (by decide) (by rfl) (@Aa _ _ _ _ _ (dv 0) Ac (by rfl)) (by decide) (by rfl) (by rfl)) (by intro _;rfl))) (@Nn _ _ _ _ (@D7 _ _ _ _ (@Ft _ _ _ (@An _ _ _ _ _ _ _ _ _ _ _ c_is_whole hr (by decide) (by rfl) (@Aa _ _ _ _ _ (dv 1) Ac (by rfl)) (by decide) (by rfl) (by rfl)) (by intro _;rfl)))))) (@Ag _ _ _ G3) A8) (@Ae _ _ _ _ _ (@D8 _ _ _ _ _ _ _ _ (@Bv _ _ _ _ _ _ _ _ N5 (dv 1) Ab (@A5 _ _ (by decide) (by decide))) (@Ag _ _ _ G3) A8) (@Ae _ _ _ _ _ (@Au _ _ (2) _ _ _ _ Gn.nd rfl (by trivial) (@An _ _ _ _ _ _ _ _ _ _ _ c_greatest_divisor hr (by decide) (by rfl) (@Aa _ _ _ _ _ (dv 0) (@Aa _ _ _ _ _ (dv 1) Ac (by rfl)) (by rfl)) (by decide) (by rfl) (by rfl)) (by rfl) (by trivial)) (@Ae _ _ _ _ _ (@D8 _ _ _ _ _ _ _ _ (@Bv _ _ _ _ _ _ _ _ Vl (dv 1) Ab (@A5 _ _ (by decide) (by decide))) (@Ag _ _ _ (@Au _ _ (2) _ _ _ _ Gn.nd rfl (by trivial) (@Op _ _ _ _ _ _ O5 (dv 2)) (by rfl) (by trivial))) A8) (@Ag _ _ _ (@Aq _ _ _ _ (@Ca _ _ _ _ _ (@Aa _ _ _ _ _ (@Aj _ _ _ _ _ _ _ _ Abj (dv 0) (dv 2)) (@Aa _ _ _ _ _ (@Aj _ _ _ _ _ _ _ _ Abj (dv 1) (dv 2)) Ac (by rfl)) (by rfl))))))))),?_⟩
   refine ⟨True.intro,⟨fun h=>nb h,fun _=>⟨True.intro,⟨fun h=>nb h,fun _=>?_⟩⟩⟩⟩
   refine ⟨fun h=>absurd (of_decide_eq_true h) b0,fun _=>?_⟩
   have d0:=Agv t b0
   have d1:=Ahl t b0 b1
   have e1:=Ag9 t b0
   have e2:=Ah9 t b0
   refine ⟨fun h=>?_,fun h=>?_⟩
   ·have h:=of_decide_eq_true h
    have e:dvs t b=-(Int.gcd t b:Int):=if_pos h
    rw [e] at d0 d1 e1 e2
    refine ⟨⟨d0,d1⟩,⟨⟨d0,d1⟩,fun p H' s z=>q p H' s ⟨?_⟩⟩⟩
    dsimp only at z
    rw [e1,e2] at z
    exact z
   ·have h:=of_decide_eq_false h
    have e:dvs t b=(Int.gcd t b:Int):=if_neg h
    rw [e] at d0 d1 e1 e2
    refine ⟨⟨d0,d1⟩,⟨⟨d0,d1⟩,fun p H' s z=>q p H' s ⟨?_⟩⟩⟩
    dsimp only at z
    rw [e1,e2] at z
    exact z
theorem Bl {H H':Hp}{D:Addr}(s:Ah H H')(h:H' D=none):H D=none:=by
 cases e:H D with
 |none=>rfl
 |some o=>
  rw [s _ _ e] at h
  cases h
theorem Agh (ns:List Int)(h:0<ns.length)(k:Int):∃n∈ns,Nv (ns.map V.int) (k % (ns.length:Int))=some (.int n):=by
 have h0:0≤k % (ns.length:Int):=Int.emod_nonneg _ (by omega)
 have h1:k % (ns.length:Int)<ns.length:=Int.emod_lt_of_pos _ (by omega)
 obtain ⟨j,hj⟩:=Int.eq_ofNat_of_zero_le h0
 have hj':j<ns.length:=by omega
 refine ⟨ns[j],List.getElem_mem hj',?_⟩
 rw [hj]
 refine C5 ?_
 rw [List.getElem?_map,List.getElem?_eq_getElem hj']
 rfl
theorem Xv {k:Int}(h0:0≤k)(h1:k<1000):0≤k*k∧k*k<1000000:=by
 have a:=Int.mul_nonneg h0 h0
 have b:k*k≤k*1000:=Int.mul_le_mul_of_nonneg_left (by omega) h0
 exact ⟨a,by omega⟩
theorem Sr {α:Type}{xs:List α}{v:α}(h:xs.getLast? =some v):Nv xs (-1)=some v:=by
 have h0:xs≠[]:=fun e=>by simp [e] at h
 have hl:0<xs.length:=List.length_pos_iff.mpr h0
 unfold Nv ixN
 rw [if_neg (by decide),if_pos (by omega)]
 show xs[(xs.length+(-1:Int)).toNat]? =some v
 rw [show (xs.length+(-1:Int)).toNat=xs.length-1 by omega,←h,List.getLast?_eq_getElem?]
def btw (v:V)(lo hi:Int):Bool:=match v with
 |.int i=>decide (lo≤i)&&decide (i≤hi)
 |_=>false
def Ff (K:PySem.W.Frag)(ns:List Int):Sp:=fun vs H Q _=>match vs with
 |[v,.int lo,.int hi]=>Kd H v∧Q (.bl (btw v lo hi)) H
 |_=>False
theorem N8:Al ["thing","least","most"] ["thing","least","most"] (Af F3):=⟨rfl,rfl,rfl,by decide +kernel,rfl,by decide +kernel,by decide +kernel⟩
theorem Ny (d:B8 K mg "is_between" F3 ["thing","least","most"])(er:Bg K mg c_Capped c_Early c_Ledger c_NoTable c_Rested c_Rule)   (c_is_whole:Bm P w K mg base "is_whole" ["thing"] 1 (G5 K ns)):Bm P w K mg base "is_between" ["thing","least","most"] 2 (Ff K ns):=by
 refine d.cal (k:=1) N8 (fun vs H Q E h=>?_) (fun f cdv A outer s H vs Q E hr h=>?_)
 ·match vs,h with
  |[v,.int lo,.int hi],_=>rfl
 ·match vs,h with
  | [v,.int lo,.int hi],hq0=>
   obtain ⟨kd,q⟩:=hq0
   refine ⟨_,(@Ag _ _ _ (@Aq _ _ _ _ (@Hg _ _ _ _ _ _ _ (@An _ _ _ _ _ _ _ _ _ _ _ c_is_whole hr (by decide) (by rfl) (@Aa _ _ _ _ _ (dv 0) Ac (by rfl)) (by decide) (by rfl) (by rfl)) (@Il _ _ _ _ _ (@Acr _ _ _ _ _ _ _ _ _ _ _ _ Aed Aed (dv 1) (dv 0) (dv 2) (by with_unfolding_all rfl)))))),?_⟩
   match v,kd,q with
   | .int i,_,q=>
    refine ⟨True.intro,⟨fun _=>⟨fun h=>?_,fun h=>?_⟩,fun h=>nb h⟩⟩
    ·have e:btw (.int i) lo hi=decide (i≤hi):=by
      have h:decide (lo≤i)=true:=h
      simp only [btw,h,Bool.true_and]
     rw [e] at q
     exact q
    ·have e:btw (.int i) lo hi=false:=by
      have h:decide (lo≤i)=false:=h
      simp only [btw,h,Bool.false_and]
     rw [e] at q
     exact q
   |.bl _,kd,q=>exact ⟨kd,⟨fun h=>nb h,fun _=>q⟩⟩
   |.non,kd,q=>exact ⟨kd,⟨fun h=>nb h,fun _=>q⟩⟩
   |.str _,kd,q=>exact ⟨kd,⟨fun h=>nb h,fun _=>q⟩⟩
   |.ref _,kd,q=>exact ⟨kd,⟨fun h=>nb h,fun _=>q⟩⟩
   |.flt _,kd,_=>exact kd.elim
   |.byt _,kd,_=>exact kd.elim
   |.ty _,kd,_=>exact kd.elim
def NT (H:Hp):V→Prop
 |.int _=>True
 |.bl _=>True
 |.non=>True
 |.str _=>True
 |.ref p=>∃u t,H p=some u∧Adc u=some t∧Zv t "tuple"=some false∧Zv t "int"=some false
 |_=>False
theorem NT.up {H H':Hp}(s:Ah H H'):∀{v:V},NT H v→NT H' v
 |.int _,h=>h
 |.bl _,h=>h
 |.non,h=>h
 |.str _,h=>h
 |.ref p,⟨u,t,h1,h2⟩=>⟨u,t,s _ _ h1,h2⟩
 |.flt _,h=>h.elim
 |.byt _,h=>h.elim
 |.ty _,h=>h.elim
def Yj (H:Hp)(v:V)(b:Bool):Prop:=(∃t xs,v=.ref t∧H t=some (.tup xs)∧xs.length≤100∧b=decide ((xs.length:Int)=2))∨(NT H v∧b=false)
def Hs (K:PySem.W.Frag)(ns:List Int):Sp:=fun vs H Q _=>match vs with
 |[v]=>∃b,Yj H v b∧Q (.bl b) H
 |_=>False
theorem Uw:Al ["thing"] ["thing"] (Af J0):=⟨rfl,rfl,rfl,by decide +kernel,rfl,by decide +kernel,by decide +kernel⟩
theorem Up (d:B8 K mg "is_pair" J0 ["thing"])(er:Bg K mg c_Capped c_Early c_Ledger c_NoTable c_Rested c_Rule)(n_len:mg "len"=none)(n_isinstance:mg "isinstance"=none)(n_tuple:mg "tuple"=none)  :Bm P w K mg base "is_pair" ["thing"] 1 (Hs K ns):=by
 refine d.cal (k:=0) Uw (fun vs H Q E h=>?_) (fun f cdv A outer s H vs Q E hr h=>?_)
 ·match vs,h with
  |[_],_=>rfl
 ·refine ⟨_,(@Ag _ _ _ (@Aq _ _ _ _ (@Hg _ _ _ _ _ _ _ (@Aw _ _ _ _ _ _ _ _ _ Wg (by rfl) n_isinstance (by decide +kernel) (@Aa _ _ _ _ _ (dv 0) (@Aa _ _ _ _ _ (Ac0 "tuple" (by rfl) n_tuple (by decide +kernel)) Ac (by rfl)) (by rfl)) (by decide) (by decide) (by rfl) (by rfl)) (@Il _ _ _ _ _ (@Du _ _ _ _ _ _ _ _ N5 (@Aw _ _ _ _ _ _ _ _ _ Df (by rfl) n_len (by decide +kernel) (@Aa _ _ _ _ _ (dv 0) Ac (by rfl)) (by decide) (by decide) (by rfl) (by rfl)) Ab (@A5 _ _ (by decide) (by decide))))))),?_⟩
  match vs,h with
  |[.int _],⟨_,.inr ⟨_,rfl⟩,q⟩=>exact ⟨false,rfl,fun h=>nb h,fun _=>q⟩
  |[.bl _],⟨_,.inr ⟨_,rfl⟩,q⟩=>exact ⟨false,rfl,fun h=>nb h,fun _=>q⟩
  |[.non],⟨_,.inr ⟨_,rfl⟩,q⟩=>exact ⟨false,rfl,fun h=>nb h,fun _=>q⟩
  |[.str _],⟨_,.inr ⟨_,rfl⟩,q⟩=>exact ⟨false,rfl,fun h=>nb h,fun _=>q⟩
  |[.ref _],⟨_,.inr ⟨⟨u,t,h1,h2,h3,_⟩,rfl⟩,q⟩=>exact ⟨u,false,t,h1,h2,h3,fun h=>nb h,fun _=>q⟩
  |[.ref _],⟨_,.inl ⟨_,xs,rfl,h1,_,rfl⟩,q⟩=>exact ⟨_,true,_,h1,rfl,rfl,fun _=>⟨_,.inr (E4.of h1),q⟩,fun h=>nb h⟩
  |[.flt _],⟨_,.inr ⟨z,_⟩,_⟩=>exact z.elim
  |[.byt _],⟨_,.inr ⟨z,_⟩,_⟩=>exact z.elim
  |[.ty _],⟨_,.inr ⟨z,_⟩,_⟩=>exact z.elim
def two (a b:V):Option (Int×Int):=match a,b with
 |.int p,.int q=>some (p,q)
 |_,_=>none
def Abw (H:Hp)(v:V)(o:Option (Int×Int)):Prop:=(∃t a b,v=.ref t∧H t=some (.tup [a,b])∧Kd H a∧Kd H b∧o=two a b)∨(Yj H v false∧o=none)
theorem Yj.up {H H':Hp}{v:V}{b:Bool}(s:Ah H H')(h:Yj H v b):Yj H' v b:=by
 rcases h with ⟨t,xs,a,e,z⟩|⟨a,e⟩
 ·exact .inl ⟨t,xs,a,s _ _ e,z⟩
 ·exact .inr ⟨a.up s,e⟩
theorem Abw.up {H H':Hp}{v:V}{o:Option (Int×Int)}(s:Ah H H')(h:Abw H v o):Abw H' v o:=by
 rcases h with ⟨t,a,b,e,h1,h2,h3,h4⟩|⟨a,e⟩
 ·exact .inl ⟨t,a,b,e,s _ _ h1,h2.up s,h3.up s,h4⟩
 ·exact .inr ⟨a.up s,e⟩
def Nq:Option (Int×Int)→Bool
 |some (p,q)=>decide (1≤q∧q≤9999∧0≤p∧p≤q∧Int.gcd p q=1)
 |none=>false
theorem Aao {p q:Int}(h:Int.gcd p q=1):Tg p q=p∧Of p q=q:=by
 unfold Tg Of
 rw [h]
 exact ⟨Int.ediv_one _,Int.ediv_one _⟩
theorem Ain {t b:Int}(hb:0<b):Ud t b=Tg t b∧Ru t b=Of t b:=by
 unfold Ud Ru
 rw [if_neg (by omega),if_neg (by omega)]
 exact ⟨rfl,rfl⟩
def qd (x:Q2):PyData:=.tuple [.int x.1,.int x.2]
theorem Ah3 (p q:Q2):PyData.eqv (qd p) (qd q)=decide (p=q):=by
 show ((p.1==q.1)&&((p.2==q.2)&&true))=_
 obtain ⟨a,b⟩:=p
 obtain ⟨c,d⟩:=q
 rw [Bool.and_true]
 by_cases h1:a=c<;>by_cases h2:b=d<;>simp [h1,h2]
theorem Aat {v:V}{lo hi:Int}(h:btw v lo hi=true):∃i,v=.int i∧lo≤i∧i≤hi:=by
 cases v with
 |int i=>
  simp only [btw,Bool.and_eq_true,decide_eq_true_iff] at h
  exact ⟨i,rfl,h⟩
 |_=>exact nb h
theorem Ab0 {v:V}{lo hi i:Int}(h:btw v lo hi=false)(e:v=.int i):¬(lo≤i∧i≤hi):=fun c=>by
 subst e
 simp only [btw,decide_eq_true c.1,decide_eq_true c.2] at h
 exact nb h
theorem Ah7 {p q:Int}(h1:1≤q∧q≤9999)(h2:0≤p∧p≤q):Nq (some (p,q))=decide (((Ud p q,Ru p q):Q2)=(p,q)):=by
 obtain ⟨e1,e2⟩:=Ain (t:=p) (b:=q) (by omega)
 rw [e1,e2]
 refine decide_eq_decide.mpr ⟨fun h=>?_,fun h=>⟨h1.1,h1.2,h2.1,h2.2,?_⟩⟩
 ·obtain ⟨a,b⟩:=Aao h.2.2.2.2
  rw [a,b]
 ·have hb:Of p q=q:=congrArg Prod.snd h
  have m:=Jn p q
  rw [hb] at m
  have:(Int.gcd p q:Int)=1:=Int.eq_of_mul_eq_mul_left (show q≠0 by omega) (by rw [m,Int.mul_one])
  omega
def K3 (K:PySem.W.Frag)(ns:List Int):Sp:=fun vs H Q _=>match vs with
 |[v]=>∃o,Abw H v o∧∀H',Ah H H'→Q (.bl (Nq o)) H'
 |_=>False
theorem S7:Al ["thing"] ["thing"] (Af Ho):=⟨rfl,rfl,rfl,by decide +kernel,rfl,by decide +kernel,by decide +kernel⟩
theorem Tq (d:B8 K mg "is_share" Ho ["thing"])(er:Bg K mg c_Capped c_Early c_Ledger c_NoTable c_Rested c_Rule)  (v_MOST_PART:Yi mg "MOST_PART" (.int (9999)))(c_fraction:Bm P w K mg base "fraction" ["top","bottom"] 2 (Dw K ns))(c_is_between:Bm P w K mg base "is_between" ["thing","least","most"] 2 (Ff K ns))(c_is_pair:Bm P w K mg base "is_pair" ["thing"] 1 (Hs K ns)):Bm P w K mg base "is_share" ["thing"] 3 (K3 K ns):=by
 refine d.cal (k:=2) S7 (fun vs H Q E h=>?_) (fun f cdv A outer s H vs Q E hr h=>?_)
 ·match vs,h with
  |[v],_=>rfl
 ·match vs,h with
  | [v],hq0=>
   obtain ⟨o,hv,k⟩:=hq0
   refine ⟨_,(@Ae _ _ _ _ _ (@D8 _ _ _ _ _ _ _ _ (@L2.PW.pt _ _ _ (@Xr _ _ _ _ _ _ _ (@D7 _ _ _ _ (@Ft _ _ _ (@An _ _ _ _ _ _ _ _ _ _ _ c_is_pair hr (by decide) (by rfl) (@Aa _ _ _ _ _ (dv 0) Ac (by rfl)) (by decide) (by rfl) (by rfl)) (by intro _;rfl))) (@Xr _ _ _ _ _ _ _ (@D7 _ _ _ _ (@Ft _ _ _ (@An _ _ _ _ _ _ _ _ _ _ _ c_is_between hr (by decide) (by rfl) (@Aa _ _ _ _ _ (@Ap _ _ _ _ _ _ _ Av (dv 0) Ab (fun _ _=>rfl)) (@Aa _ _ _ _ _ Ab (@Aa _ _ _ _ _ (Og v_MOST_PART (by rfl)) Ac (by rfl)) (by rfl)) (by rfl)) (by decide) (by rfl) (by rfl)) (by intro _;rfl))) (@Nn _ _ _ _ (@D7 _ _ _ _ (@Ft _ _ _ (@An _ _ _ _ _ _ _ _ _ _ _ c_is_between hr (by decide) (by rfl) (@Aa _ _ _ _ _ (@Ap _ _ _ _ _ _ _ Av (dv 0) Ab (fun _ _=>rfl)) (@Aa _ _ _ _ _ Ab (@Aa _ _ _ _ _ (@Ap _ _ _ _ _ _ _ Av (dv 0) Ab (fun _ _=>rfl)) Ac (by rfl)) (by rfl)) (by rfl)) (by decide) (by rfl) (by rfl)) (by intro _;rfl))))))) (@Ag _ _ _ (@Aq _ _ _ _ Xh)) A8) (@Ag _ _ _ (@Aq _ _ _ _ (@Du _ _ _ _ _ _ _ _ (@Kw _ hr.units) (@An _ _ _ _ _ _ _ _ _ _ _ c_fraction hr (by decide) (by rfl) (@Aa _ _ _ _ _ (@Ap _ _ _ _ _ _ _ Av (dv 0) Ab (fun _ _=>rfl)) (@Aa _ _ _ _ _ (@Ap _ _ _ _ _ _ _ Av (dv 0) Ab (fun _ _=>rfl)) Ac (by rfl)) (by rfl)) (by decide) (by rfl) (by rfl)) (dv 0) (@A5 _ _ (by decide) (by decide)))))),?_⟩
   rcases hv with ⟨t,a,b,rfl,e,ka,kb,rfl⟩|⟨h,rfl⟩
   case' inr=>exact ⟨false,h,⟨fun _=>⟨fun _=>k _ (Ah.refl _),fun h=>nb h⟩,fun h=>nb h⟩⟩
   refine ⟨true,.inl ⟨t,_,rfl,e,(show 2≤100 by decide),rfl⟩,⟨fun h=>nb h,fun _=>⟨_,e,kb,⟨fun h=>⟨fun _=>?_,fun h=>nb h⟩,fun h=>?_⟩⟩⟩⟩
   ·have h:btw b 1 9999=false:=by simpa using h
    have e:Nq (two a b)=false:=by
     unfold two
     split
     ·have:=Ab0 h rfl
      exact decide_eq_false fun c=>this ⟨c.1,c.2.1⟩
     ·rfl
    rw [e] at k
    exact k _ (Ah.refl _)
   have h:btw b 1 9999=true:=by simpa using h
   obtain ⟨q,rfl,q1,q2⟩:=Aat h
   refine ⟨_,e,_,e,ka,⟨fun h=>?_,fun h=>?_⟩⟩
   ·have h:btw a 0 q=false:=by simpa using h
    have e:Nq (two a (.int q))=false:=by
     cases a with
     |int p=>
      have:=Ab0 h rfl
      exact decide_eq_false fun c=>this ⟨c.2.2.1,c.2.2.2.1⟩
     |_=>rfl
    rw [e] at k
    exact k _ (Ah.refl _)
   have h':btw a 0 q=true:=by simpa using h
   clear h
   obtain ⟨p,ea,p1,p2⟩:=Aat h'
   subst ea
   refine ⟨_,e,_,e,⟨by omega,Dy (b:=9999) (by omega) (by omega) (A0 rfl)⟩,fun r H' s' f=>⟨qd (Ud p q,Ru p q),qd (p,q),.tup (E4.of f.at') (.cons (.int _) (.cons (.int _) .nil)),.tup (E4.of (s' _ _ e)) (.cons (.int _) (.cons (.int _) .nil)),rfl,rfl,?_⟩⟩
   have k:=k H' s'
   rw [show two (.int p) (.int q)=some (p,q) from rfl,Ah7 ⟨q1,q2⟩ ⟨p1,p2⟩] at k
   rw [Ah3]
   exact k
def thr (a:V)(o:Option (Int×Int)):Option (Int×Int×Int):=match a,o with
 |.int s,some (p,q)=>some (s,p,q)
 |_,_=>none
def Mc (H:Hp)(v:V)(o:Option (Int×Int×Int)):Prop:=(∃t a b so,v=.ref t∧H t=some (.tup [a,b])∧Kd H a∧Abw H b so∧o=thr a so)∨(Yj H v false∧o=none)
theorem Mc.up {H H':Hp}{v:V}{o:Option (Int×Int×Int)}(s:Ah H H')(h:Mc H v o):Mc H' v o:=by
 rcases h with ⟨t,a,b,so,e,h1,h2,h3,h4⟩|⟨a,e⟩
 ·exact .inl ⟨t,a,b,so,e,s _ _ h1,h2.up s,h3.up s,h4⟩
 ·exact .inr ⟨a.up s,e⟩
def Cz:Option (Int×Int×Int)→Bool
 |some (s,p,q)=>decide (0≤s∧s≤1000000)&&Nq (some (p,q))
 |none=>false
def Os (K:PySem.W.Frag)(ns:List Int):Sp:=fun vs H Q _=>match vs with
 |[v]=>∃o,Mc H v o∧∀H',Ah H H'→Q (.bl (Cz o)) H'
 |_=>False
theorem Yl:Al ["thing"] ["thing"] (Af Ly):=⟨rfl,rfl,rfl,by decide +kernel,rfl,by decide +kernel,by decide +kernel⟩
theorem Yv (d:B8 K mg "is_row" Ly ["thing"])(er:Bg K mg c_Capped c_Early c_Ledger c_NoTable c_Rested c_Rule)  (v_LAST_FROM:Yi mg "LAST_FROM" (.int (1000000)))(c_is_share:Bm P w K mg base "is_share" ["thing"] 3 (K3 K ns))(c_is_between:Bm P w K mg base "is_between" ["thing","least","most"] 2 (Ff K ns))(c_is_pair:Bm P w K mg base "is_pair" ["thing"] 1 (Hs K ns)):Bm P w K mg base "is_row" ["thing"] 4 (Os K ns):=by
 refine d.cal (k:=3) Yl (fun vs H Q E h=>?_) (fun f cdv A outer s H vs Q E hr h=>?_)
 ·match vs,h with
  |[v],_=>rfl
 ·match vs,h with
  | [v],hq0=>
   obtain ⟨o,hv,k⟩:=hq0
   refine ⟨_,(@Ag _ _ _ (@Aq _ _ _ _ (@Hg _ _ _ _ _ _ _ (@An _ _ _ _ _ _ _ _ _ _ _ c_is_pair hr (by decide) (by rfl) (@Aa _ _ _ _ _ (dv 0) Ac (by rfl)) (by decide) (by rfl) (by rfl)) (@Hg _ _ _ _ _ _ _ (@An _ _ _ _ _ _ _ _ _ _ _ c_is_between hr (by decide) (by rfl) (@Aa _ _ _ _ _ (@Ap _ _ _ _ _ _ _ Av (dv 0) Ab (fun _ _=>rfl)) (@Aa _ _ _ _ _ Ab (@Aa _ _ _ _ _ (Og v_LAST_FROM (by rfl)) Ac (by rfl)) (by rfl)) (by rfl)) (by decide) (by rfl) (by rfl)) (@Il _ _ _ _ _ (@An _ _ _ _ _ _ _ _ _ _ _ c_is_share hr (by decide) (by rfl) (@Aa _ _ _ _ _ (@Ap _ _ _ _ _ _ _ Av (dv 0) Ab (fun _ _=>rfl)) Ac (by rfl)) (by decide) (by rfl) (by rfl))))))),?_⟩
   rcases hv with ⟨t,a,b,so,rfl,e,ka,sb,rfl⟩|⟨h,rfl⟩
   case' inr=>exact ⟨false,h,⟨fun h=>nb h,fun _=>k _ (Ah.refl _)⟩⟩
   refine ⟨true,.inl ⟨t,_,rfl,e,(show 2≤100 by decide),rfl⟩,⟨fun _=>⟨_,e,ka,⟨fun h=>?_,fun h=>?_⟩⟩,fun h=>nb h⟩⟩
   rotate_left
   ·have h:btw a 0 1000000=false:=h
    have e:Cz (thr a so)=false:=by
     unfold thr
     split
     ·have:=Ab0 h rfl
      show (decide _&&_)=false
      rw [decide_eq_false this]
      rfl
     ·rfl
    rw [e] at k
    exact k _ (Ah.refl _)
   have h:btw a 0 1000000=true:=h
   obtain ⟨s',rfl,q1,q2⟩:=Aat h
   refine ⟨_,e,so,sb,fun H' s1=>?_⟩
   have k:=k H' s1
   have e:Cz (thr (.int s') so)=Nq so:=by
    unfold thr
    cases so with
    |none=>rfl
    |some pq=>
     obtain ⟨p,q⟩:=pq
     show (decide (0≤s'∧s'≤1000000)&&Nq (some (p,q)))=_
     rw [decide_eq_true ⟨q1,q2⟩,Bool.true_and]
   rw [e] at k
   exact k
def Dn (H:Hp)(v:V)(r:Int×Int×Int):Prop:=∃t u,v=.ref t∧H t=some (.tup [.int r.1,.ref u])∧H u=some (.tup [.int r.2.1,.int r.2.2])
theorem Cm (v:V)(r:Int×Int×Int)(H H':Hp)(k:Kt H H')(h:Dn H v r):Dn H' v r:=by
 obtain ⟨t,u,e,h1,h2⟩:=h
 exact ⟨t,u,e,k _ _ h1,k _ _ h2⟩
theorem Mc.ro {H:Hp}{v:V}{r:Int×Int×Int}(h:Mc H v (some r)):Dn H v r:=by
 rcases h with ⟨t,a,b,so,e,h1,h2,h3,h4⟩|⟨_,e⟩
 ·unfold thr at h4
  split at h4
  ·rename_i s p q
   cases h4
   rcases h3 with ⟨u,x,y,e',g1,_,_,g4⟩|⟨_,e'⟩
   ·unfold two at g4
    split at g4
    ·cases g4
     subst e'
     exact ⟨t,u,e,h1,g1⟩
    ·cases g4
   ·cases e'
  ·cases h4
 ·cases e
theorem Dn.rw {H:Hp}{v:V}{r:Int×Int×Int}(h:Dn H v r):Mc H v (some r):=by
 obtain ⟨t,u,e,h1,h2⟩:=h
 exact .inl ⟨t,_,_,some (r.2.1,r.2.2),e,h1,trivial,.inl ⟨u,_,_,rfl,h2,trivial,trivial,rfl⟩,rfl⟩
def Q5 (a b:Int×Int×Int):Bool:=decide (a.1<b.1)&&decide (¬b.2.1*a.2.2<a.2.1*b.2.2)
def Fo (K:PySem.W.Frag)(ns:List Int):Sp:=fun vs H Q _=>match vs with
 |[.ref a,.ref b]=>∃p q p' q':Int,(H a=some (.tup [.int p,.int q])∧H b=some (.tup [.int p',.int q']))∧(Bd 1900 p∧Bd 1900 q∧Bd 1900 p'∧Bd 1900 q')∧Q (.bl (decide (p*q'<p'*q))) H
 |_=>False
theorem Aaf:Al ["one","other"] ["one","other"] (Af Rk):=⟨rfl,rfl,rfl,by decide +kernel,rfl,by decide +kernel,by decide +kernel⟩
theorem Zj (d:B8 K mg "under" Rk ["one","other"])(er:Bg K mg c_Capped c_Early c_Ledger c_NoTable c_Rested c_Rule)   :Bm P w K mg base "under" ["one","other"] 1 (Fo K ns):=by
 refine d.cal (k:=0) Aaf (fun vs H Q E h=>?_) (fun f cdv A outer s H vs Q E hr h=>?_)
 ·match vs,h with
  |[.ref a,.ref b],_=>rfl
 ·match vs,h with
  |[.ref a,.ref b],hq0=>
   obtain ⟨p,q,p',q',⟨ha,hb⟩,⟨b1,b2,b3,b4⟩,k⟩:=hq0
   refine ⟨_,(@Ag _ _ _ (@Aq _ _ _ _ (@Du _ _ _ _ _ _ _ _ Vl (@Aj _ _ _ _ _ _ _ _ Cw (@Ap _ _ _ _ _ _ _ Av (dv 0) Ab (fun _ _=>rfl)) (@Ap _ _ _ _ _ _ _ Av (dv 1) Ab (fun _ _=>rfl))) (@Aj _ _ _ _ _ _ _ _ Cw (@Ap _ _ _ _ _ _ _ Av (dv 1) Ab (fun _ _=>rfl)) (@Ap _ _ _ _ _ _ _ Av (dv 0) Ab (fun _ _=>rfl))) (@A5 _ _ (by decide) (by decide))))),?_⟩
   exact ⟨_,ha,_,hb,Xw b1 b4 (by decide) (by decide),_,hb,_,ha,Xw b3 b2 (by decide) (by decide),k⟩
def Lv (K:PySem.W.Frag)(ns:List Int):Sp:=fun vs H Q _=>match vs with
 |[v,u]=>∃a b,(Dn H v a∧Dn H u b)∧(Bd 20 a.2.1∧Bd 20 a.2.2∧Bd 20 b.2.1∧Bd 20 b.2.2)∧Q (.bl (Q5 a b)) H
 |_=>False
theorem Vq:Al ["row","later"] ["row","later"] (Af Ki):=⟨rfl,rfl,rfl,by decide +kernel,rfl,by decide +kernel,by decide +kernel⟩
theorem Vf (d:B8 K mg "goes_on" Ki ["row","later"])(er:Bg K mg c_Capped c_Early c_Ledger c_NoTable c_Rested c_Rule)   (c_under:Bm P w K mg base "under" ["one","other"] 1 (Fo K ns)):Bm P w K mg base "goes_on" ["row","later"] 2 (Lv K ns):=by
 refine d.cal (k:=1) Vq (fun vs H Q E h=>?_) (fun f cdv A outer s H vs Q E hr h=>?_)
 ·match vs,h with
  |[v,u],_=>rfl
 ·match vs,h with
  | [v,u],hq0=>
   obtain ⟨a,b,⟨⟨t,x,ev,h1,h2⟩,⟨t',x',eu,h1',h2'⟩⟩,⟨b1,b2,b3,b4⟩,k⟩:=hq0
   refine ⟨_,(@Ag _ _ _ (@Aq _ _ _ _ (@Hg _ _ _ _ _ _ _ (@Du _ _ _ _ _ _ _ _ Vl (@Ap _ _ _ _ _ _ _ Av (dv 0) Ab (fun _ _=>rfl)) (@Ap _ _ _ _ _ _ _ Av (dv 1) Ab (fun _ _=>rfl)) (@A5 _ _ (by decide) (by decide))) (@Il _ _ _ _ _ (@Ae9 _ _ _ _ (@An _ _ _ _ _ _ _ _ _ _ _ c_under hr (by decide) (by rfl) (@Aa _ _ _ _ _ (@Ap _ _ _ _ _ _ _ Av (dv 1) Ab (fun _ _=>rfl)) (@Aa _ _ _ _ _ (@Ap _ _ _ _ _ _ _ Av (dv 0) Ab (fun _ _=>rfl)) Ac (by rfl)) (by rfl)) (by decide) (by rfl) (by rfl))))))),?_⟩
   subst ev
   subst eu
   refine ⟨_,h1,_,h1',⟨fun h=>⟨_,h1',_,h1,_,_,_,_,⟨h2',h2⟩,⟨b3.mono (by decide),b4.mono (by decide),b1.mono (by decide),b2.mono (by decide)⟩,?_⟩,fun h=>?_⟩⟩
   ·have h:decide (a.1<b.1)=true:=h
    have e:Q5 a b=!decide (b.2.1*a.2.2<a.2.1*b.2.2):=by
     unfold Q5
     rw [h,Bool.true_and,decide_not]
    rw [e] at k
    exact k
   ·have h:decide (a.1<b.1)=false:=h
    have e:Q5 a b=false:=by
     unfold Q5
     rw [h,Bool.false_and]
    rw [e] at k
    exact k
def chn:List (Int×Int×Int)→Bool
 |a::b::l=>Q5 a b&&chn (b::l)
 |_=>true
def D6 (rows:List (Int×Int×Int)):Prop:=(1≤rows.length∧rows.length≤10)∧(∀r∈rows,Cz (some r)=true)∧rows[0]? =some (0,1,2)∧chn rows=true
def Ajf (os:List (Option (Int×Int×Int))):Prop:=¬∃rows,os=rows.map some∧D6 rows
def rd3 (r:Int×Int×Int):PyData:=.tuple [.int r.1,.tuple [.int r.2.1,.int r.2.2]]
theorem Ajm {K:PySem.W.Frag}{H:Hp}{v:V}{r:Int×Int×Int}(h:Dn H v r):Rp K H v (rd3 r):=by
 obtain ⟨t,u,e,h1,h2⟩:=h
 subst e
 exact .tup (E4.of h1) (.cons (.int _) (.cons (.tup (E4.of h2) (.cons (.int _) (.cons (.int _) .nil))) .nil))
theorem Ad4 (p q:Int×Int×Int):PyData.eqv (rd3 p) (rd3 q)=decide (p=q):=by
 show ((p.1==q.1)&&(((p.2.1==q.2.1)&&((p.2.2==q.2.2)&&true))&&true))=_
 obtain ⟨a,b,c⟩:=p
 obtain ⟨a',b',c'⟩:=q
 by_cases h1:a=a'<;>by_cases h2:b=b'<;>by_cases h3:c=c'<;>simp [h1,h2,h3]
def NL (H:Hp):V→Prop
 |.int _=>True
 |.bl _=>True
 |.non=>True
 |.str _=>True
 |.ref p=>∃u t,H p=some u∧Adc u=some t∧Zv t "list"=some false
 |_=>False
def Ald (H:Hp)(v:V)(os:Option (List (Option (Int×Int×Int)))):Prop:=(∃l vs os',v=.ref l∧H l=some (.lst vs)∧vs.length≤100∧At (Mc H) vs os'∧os=some os')∨(NL H v∧os=none)
theorem Yu {β:Type}{K:PySem.W.Frag}{a b:Addr}{xs ys:List V}{ms:List β}{g:TG}{te:TE}{k:Nat}{js:List Nat}{σ:L2.St}{H1:Hp}{Q:VK}(M:Hp→V→V→β→Prop)(upM:∀v u m H H',Kt H H'→M H v u m→M H' v u m)(R:Hp→β→V→Prop)(up:∀m y H H',Kt H H'→R H m y→R H' m y)
  (hz:ms.length≤1000) (hx:Ay K H1 a xs) (hy:Ay K H1 b ys) (lx:ms.length≤xs.length) (ly:ys.length=ms.length) (hm:∀(i:Nat) x y m,xs[i]? =some x→ys[i]? =some y→ms[i]? =some m→M H1 x y m)
  (hs:∀x y m t H2,M H2 x y m→m∈ms→Ah H1 H2→H2 t=some (.tup [x,y])→∀P:VK,(∀y H3,Ah H2 H3→R H3 m y→P y H3)→g (.ref t) (List.replicate k none++capσ js σ) H2 fun σ2 H3=>σ2.drop k=capσ js σ∧te σ2 H3 P)
  (hq:∀D H' zs,Ah H1 H'→H1 D=none→H' D=some (.lst zs)→At (R H') ms zs→Q (.ref D) H'):Ez (Itz true true K a b) g te k js σ H1 Q:=by
 unfold Ez
 intro D hD
 refine ⟨fun i m H=>m=ms.length-i∧i≤ms.length∧Ah H1 H∧∃zs,H D=some (.lst zs)∧At (R H) (ms.take i) zs,⟨ms.length,by simp,Nat.zero_le _,Am hD,[],Ad,.nil⟩,?_⟩
 rintro i m H ⟨rfl,hi,sm,zs,hH,ar⟩
 have sq1:Yh true K H a xs:=sm.seq hx
 have sq2:Yh true K H b ys:=sm.seq hy
 by_cases hlt:i<ms.length
 ·have e1:xs[i]? =some (xs[i]'(by omega)):=List.getElem?_eq_getElem _
  have e2:ys[i]? =some (ys[i]'(by omega)):=List.getElem?_eq_getElem _
  have e3:ms[i]? =some ms[i]:=List.getElem?_eq_getElem _
  refine .inr ⟨⟨xs,ys,_,_,sq1,sq2,e1,e2⟩,fun v H' yl=>?_⟩
  obtain ⟨t,x,y,rfl,ht,rfl,y1,y2⟩:=yl
  have st:Ah H (upd H t (.tup [x,y])):=Am ht
  have et:upd H t (.tup [x,y]) t=some (.tup [x,y]):=Ad
  generalize upd H t (.tup [x,y])=H2 at st et
  have hH:=st _ _ hH
  have s2:=sm.trans st
  have hM:=hm i x y _ (y1 xs sq1) (y2 ys sq2) e3
  refine hs x y _ t H2 (upM _ _ _ _ _ (A7 s2) hM) (List.mem_of_getElem? e3) s2 et _ fun u H3 s3 r3=>⟨zs,s3 _ _ hH,?_,ms.length-(i+1),by omega,rfl,hlt,Cb (s2.trans s3) hD,zs++[u],Ad,?_⟩
  ·rw [←ar.len,List.length_take]
   exact Nat.lt_of_le_of_lt (Nat.min_le_left _ _) (Nat.lt_of_lt_of_le hlt (Nat.le_trans hz (by decide)))
  ·have kt:Kt H3 (upd H3 D (.lst (zs++[u]))):=Go (s3 _ _ hH)
   rw [List.take_add_one,e3]
   exact (ar.imp fun v y r=>up v y _ _ ((A7 (st.trans s3)).trans kt) r).snoc (up _ _ _ _ kt r3)
 ·have e:i=ms.length:=by omega
  subst e
  rw [List.take_length] at ar
  exact .inl ⟨⟨xs,ys,sq1,sq2,.inr (by omega)⟩,hq D _ zs sm hD hH ar⟩
theorem Ab6 {α:Type}{f:α→Bool}:∀{l:List α} {ys:List V},At (fun o y=>y=V.bl (f o)) l ys→ys=(l.map f).map V.bl
 |_,_,.nil=>rfl
 |_,_,.cons h t=>by rw [h,Ab6 t];rfl
theorem Ta:∀{os:List (Option (Int×Int×Int))},(os.map Cz).all id=true→∃rows:List (Int×Int×Int),os=rows.map some∧∀r∈rows,Cz (some r)=true
 |[],_=>⟨[],rfl,fun r h=>absurd h (by simp)⟩
 | o::os,h=>by
  rw [List.map_cons,List.all_cons,Bool.and_eq_true] at h
  obtain ⟨rows,e,hr⟩:=Ta h.2
  cases o with
  |none=>exact nb h.1
  |some r=>
   refine ⟨r::rows,by rw [e];rfl,fun x hx=>?_⟩
   rcases List.mem_cons.mp hx with rfl|hx
   ·exact h.1
   ·exact hr x hx
theorem Agy {rows:List (Int×Int×Int)}(h:∀r∈rows,Cz (some r)=true):((rows.map some).map Cz).all id=true:=by
 rw [List.all_eq_true]
 intro b hb
 obtain ⟨o,ho,rfl⟩:=List.mem_map.mp hb
 obtain ⟨r,hr,rfl⟩:=List.mem_map.mp ho
 exact h r hr
theorem Iy {α:Type}:∀{l m:List α},l.map some=m.map some→l=m
 |[],[],_=>rfl
 |[],_::_,h=>by simp at h
 |_::_,[],h=>by simp at h
 |a::l,b::m,h=>by
  rw [List.map_cons,List.map_cons] at h
  injection h with h1 h2
  cases h1
  rw [Iy h2]
theorem Ae0 {H:Hp}:∀{vs:List V} {rows:List (Int×Int×Int)},At (Mc H) vs (rows.map some)→At (Dn H) vs rows
 |[],[],_=>.nil
 |_::_,[],h=>by cases h
 |[],_::_,h=>by cases h
 |v::vs,r::rows,.cons h t=>.cons h.ro (Ae0 t)
theorem Ae8 {H:Hp}:∀{vs:List V} {rows:List (Int×Int×Int)},At (Dn H) vs rows→At (Mc H) vs (rows.map some)
 |_,_,.nil=>.nil
 |_,_,.cons h t=>.cons h.rw (Ae8 t)
theorem Xb:∀(rows:List (Int×Int×Int)),chn rows=((rows.zip (rows.drop 1)).map fun m=>Q5 m.1 m.2).all id
 |[]=>rfl
 |[_]=>rfl
 |a::b::l=>by
  show (Q5 a b&&chn (b::l))=_
  rw [Xb (b::l)]
  rfl
theorem Sg {xs:List V}{j:Nat}(h:j≤xs.length):Hd xs (some (j:Int)) none=xs.drop j:=by
 unfold Hd
 rw [HT.sIx_none,HT.sIx_nat,Nat.min_eq_left h]
 apply List.take_of_length_le
 rw [List.length_drop]
 exact Nat.le_refl _
theorem Vn {r:Int×Int×Int}(h:Cz (some r)=true):(0≤r.1∧r.1≤1000000)∧(1≤r.2.2∧r.2.2≤9999∧0≤r.2.1∧r.2.1≤r.2.2∧Int.gcd r.2.1 r.2.2=1):=by
 obtain ⟨s,p,q⟩:=r
 have h:(decide (0≤s∧s≤1000000)&&Nq (some (p,q)))=true:=h
 rw [Bool.and_eq_true] at h
 exact ⟨of_decide_eq_true h.1,of_decide_eq_true h.2⟩
def Kz (K:PySem.W.Frag)(ns:List Int):Sp:=fun vs H Q E=>match vs with
 |[v]=>∃os,Ald H v os∧((∀os',os=some os'→Ajf os')→∀H',Ah H H'→ExN K "NoTable" E H')∧(∀rows vs l,v=.ref l→H l=some (.lst vs)→os=some (rows.map some)→D6 rows→∀D H',Ah H H'→H D=none→H' D=some (.lst vs)→Q (.ref D) H')
 |_=>False
theorem T9:Al ["rows"] ["rows"] (Af Hn):=⟨rfl,rfl,rfl,by decide +kernel,rfl,by decide +kernel,by decide +kernel⟩
theorem Sm (d:B8 K mg "table_of" Hn ["rows"])(er:Bg K mg c_Capped c_Early c_Ledger c_NoTable c_Rested c_Rule)(n_list:mg "list"=none)(n_all:mg "all"=none)(n_zip:mg "zip"=none)(n_len:mg "len"=none)(n_isinstance:mg "isinstance"=none)(v_FIRST_ROW:Yi mg "FIRST_ROW" (.ref a_FIRST_ROW))(w_FIRST_ROW:Abl K a_FIRST_ROW [.int (0),.ref b_FIRST_ROW_1])(w_FIRST_ROW_1:Abl K b_FIRST_ROW_1 [.int (1),.int (2)])(v_MOST_ROWS:Yi mg "MOST_ROWS" (.int (10)))(c_goes_on:Bm P w K mg base "goes_on" ["row","later"] 2 (Lv K ns))(c_is_row:Bm P w K mg base "is_row" ["thing"] 4 (Os K ns)):Bm P w K mg base "table_of" ["rows"] 5 (Kz K ns):=by
 refine d.calX (k:=4) T9 (fun vs H Q E h=>?_) (fun f cdv A outer s H vs Q E hr h=>?_)
 ·match vs,h with
  |[v],_=>rfl
 ·match vs,h with
  | [v],hq0=>
   obtain ⟨os,hv,ex,k⟩:=hq0
   refine ⟨_,(@Ae _ _ _ _ _ (@D8 _ _ _ _ _ _ _ _ (@L2.PW.pt _ _ _ (@Xr _ _ _ _ _ _ _ (@D7 _ _ _ _ (@Ft _ _ _ (@Aw _ _ _ _ _ _ _ _ _ Wg (by rfl) n_isinstance (by decide +kernel) (@Aa _ _ _ _ _ (dv 0) (@Aa _ _ _ _ _ (Ac0 "list" (by rfl) n_list (by decide +kernel)) Ac (by rfl)) (by rfl)) (by decide) (by decide) (by rfl) (by rfl)) (by intro _;rfl))) (@Nn _ _ _ _ (@D7 _ _ _ _ (@Ac3 _ _ _ _ _ _ _ _ _ _ _ _ Aed Aed Ab (@Aw _ _ _ _ _ _ _ _ _ Df (by rfl) n_len (by decide +kernel) (@Aa _ _ _ _ _ (dv 0) Ac (by rfl)) (by decide) (by decide) (by rfl) (by rfl)) (Og v_MOST_ROWS (by rfl)) (by with_unfolding_all rfl)))))) (@Ag _ _ _ (@Jl _ _ _ _ _ _ _ _ _ _ _ _ _ _ _ _ _ _ _ _ _ _ _ er.b_NoTable er.x_NoTable (by rfl) (by decide))) A8) (@Ae _ _ _ _ _ (@D8 _ _ _ _ _ _ _ _ (@D7 _ _ _ _ (@Ft _ _ _ (@Aw _ _ _ _ _ _ _ _ _ (@Ae3 _ rfl) (by rfl) n_all (by decide +kernel) (@Aa _ _ _ _ _ (@Fy _ _ _ _ _ _ _ _ _ _ ["row"] [] [] rfl (@Dq _ _ _ _ (dv 0)) (fun C s H fp=>(@A6 _ _ (0) _ (show List.Nodup [("row":Str)] by decide +kernel) rfl (by trivial) (by trivial))) (fun C s H fp=>(@An _ _ _ _ _ _ _ _ _ _ _ c_is_row hr (by decide) (by rfl) (@Aa _ _ _ _ _ (dv 0) Ac (by rfl)) (by decide) (by rfl) (by rfl))) rfl rfl (by decide +kernel) (by decide +kernel) (by rfl) True.intro True.intro (by intro _;rfl)) Ac (by rfl)) (by decide) (by decide) (by rfl) (by rfl)) (by intro _;rfl))) (@Ag _ _ _ (@Jl _ _ _ _ _ _ _ _ _ _ _ _ _ _ _ _ _ _ _ _ _ _ _ er.b_NoTable er.x_NoTable (by rfl) (by decide))) A8) (@Ae _ _ _ _ _ (@D8 _ _ _ _ _ _ _ _ (@Bv _ _ _ _ _ _ _ _ (@O0 _ hr.units) (@Ap _ _ _ _ _ _ _ Dd (dv 0) Ab (fun _ _=>rfl)) (Og v_FIRST_ROW (by rfl)) (@A5 _ _ (by decide) (by decide))) (@Ag _ _ _ (@Jl _ _ _ _ _ _ _ _ _ _ _ _ _ _ _ _ _ _ _ _ _ _ _ er.b_NoTable er.x_NoTable (by rfl) (by decide))) A8) (@Ae _ _ _ _ _ (@D8 _ _ _ _ _ _ _ _ (@D7 _ _ _ _ (@Ft _ _ _ (@Aw _ _ _ _ _ _ _ _ _ (@Ae3 _ rfl) (by rfl) n_all (by decide +kernel) (@Aa _ _ _ _ _ (@Fy _ _ _ _ _ _ _ _ _ _ ["row","later"] [] [] rfl (@Ail _ true true _ _ _ _ _ _ _ _ (by rfl) n_zip (@Aa _ _ _ _ _ (dv 0) (@Aa _ _ _ _ _ (@C2 _ _ _ _ _ _ _ _ _ _ Us (dv 0) (Cj Ab) Jg) Ac (by rfl)) (by rfl)) (by rfl) (by rfl)) (fun C s H fp=>(show PG _ _ (Akt K 2 _) from U2 rfl (C4 (A6 (i:=0) (show List.Nodup [("row":Str),("later":Str)] by decide +kernel) rfl (by trivial)) (C4 (A6 (i:=1) (show List.Nodup [("row":Str),("later":Str)] by decide +kernel) rfl (by trivial)) Qi)))) (fun C s H fp=>(@An _ _ _ _ _ _ _ _ _ _ _ c_goes_on hr (by decide) (by rfl) (@Aa _ _ _ _ _ (dv 0) (@Aa _ _ _ _ _ (dv 1) Ac (by rfl)) (by rfl)) (by decide) (by rfl) (by rfl))) rfl rfl (by decide +kernel) (by decide +kernel) (by rfl) True.intro True.intro (by intro _;rfl)) Ac (by rfl)) (by decide) (by decide) (by rfl) (by rfl)) (by intro _;rfl))) (@Ag _ _ _ (@Jl _ _ _ _ _ _ _ _ _ _ _ _ _ _ _ _ _ _ _ _ _ _ _ er.b_NoTable er.x_NoTable (by rfl) (by decide))) A8) (@Ag _ _ _ (@Aq _ _ _ _ (@Pa _ _ _ _ _ _ _ _ _ Pu (by rfl) n_list (by decide +kernel) (@Aa _ _ _ _ _ (dv 0) Ac (by rfl)) (by decide) (by decide) (by rfl) (by rfl)))))))),?_⟩
   rcases hv with ⟨l,vs',os',rfl,e,l100,al,rfl⟩|⟨nl,rfl⟩
   case' inr=>
    have ex:=ex (fun os' h=>by cases h)
    match v,nl with
    |.int _,_=>exact ⟨false,rfl,⟨fun _=>⟨fun _=>ex _ (Ah.refl _) _ er.y_NoTable,fun h=>nb h⟩,fun h=>nb h⟩⟩
    |.bl _,_=>exact ⟨false,rfl,⟨fun _=>⟨fun _=>ex _ (Ah.refl _) _ er.y_NoTable,fun h=>nb h⟩,fun h=>nb h⟩⟩
    |.non,_=>exact ⟨false,rfl,⟨fun _=>⟨fun _=>ex _ (Ah.refl _) _ er.y_NoTable,fun h=>nb h⟩,fun h=>nb h⟩⟩
    |.str _,_=>exact ⟨false,rfl,⟨fun _=>⟨fun _=>ex _ (Ah.refl _) _ er.y_NoTable,fun h=>nb h⟩,fun h=>nb h⟩⟩
    |.ref _,⟨u,t,h1,h2,h3⟩=>exact ⟨u,false,t,h1,h2,h3,⟨fun _=>⟨fun _=>ex _ (Ah.refl _) _ er.y_NoTable,fun h=>nb h⟩,fun h=>nb h⟩⟩
    |.flt _,h=>exact h.elim
    |.byt _,h=>exact h.elim
    |.ty _,h=>exact h.elim
   have ex:Ajf os'→∀H',Ah H H'→ExN K "NoTable" E H':=fun h=>ex fun _ z=>by cases z;exact h
   have ll:=al.len
   refine ⟨_,true,_,e,rfl,rfl,⟨fun h=>nb h,fun _=>⟨_,.inl (Ay.of e),?_⟩⟩⟩
   have goB:¬(1≤vs'.length∧vs'.length≤10)→∀H',Ah H H'→ExN K "NoTable" E H':=fun c=>ex fun ⟨rows,er,g⟩=>c (by
    have h1:=g.1
    have h2:os'.length=rows.length:=by rw [er,List.length_map]
    omega)
   refine ⟨fun h1=>⟨fun h2=>?_,fun h2=>?_⟩,fun h1=>⟨fun _=>?_,fun h=>nb h⟩⟩
   ·have h2:¬(vs'.length:Int)≤10:=by simpa using h2
    exact goB (fun c=>by omega) _ (Ah.refl _) _ er.y_NoTable
   rotate_left
   ·have h1:¬(1:Int)≤(vs'.length:Int):=of_decide_eq_false h1
    exact goB (fun c=>by omega) _ (Ah.refl _) _ er.y_NoTable
   have h1:(1:Int)≤(vs'.length:Int):=of_decide_eq_true h1
   have h2:(vs'.length:Int)≤10:=by simpa using h2
   clear goB
   refine ⟨l,rfl,⟨_,Ay.of e⟩,Jd (fun _ v o=>Mc H v o) (fun _ _ _ _ _ h=>h) (fun _ o y=>y=V.bl (Cz o)) (fun _ _ _ _ _ h=>h) (by omega) (Ay.of e) al ?_ ?_⟩
   ·intro v o H1 hM _ s1 P hP
    exact ⟨rfl,o,hM.up s1,fun H2 s2=>hP _ _ s2 rfl⟩
   intro D1 H1 ys s1 _ e1 a1
   have y1:=Ab6 a1
   refine ⟨os'.map Cz,by rw [←y1];exact Ay.of e1,⟨fun h=>?_,fun h=>?_⟩⟩
   ·have h:(os'.map Cz).all id=false:=by simpa using h
    refine ex (fun ⟨rows,er,g⟩=>?_) _ s1 _ er.y_NoTable
    rw [er,Agy g.2.1] at h
    exact nb h
   have h:(os'.map Cz).all id=true:=by simpa using h
   obtain ⟨rows,rfl,hr⟩:=Ta h
   have ro:=Ae0 al
   have ro1:At (Dn H1) vs' rows:=ro.imp fun v r h=>Cm v r _ _ (A7 s1) h
   have lr:vs'.length=rows.length:=ro.len
   obtain ⟨v0,hv0⟩:∃v0,vs'[0]? =some v0:=⟨_,List.getElem?_eq_getElem (by omega)⟩
   obtain ⟨r0,hr0,ro0⟩:=ro1.get hv0
   refine ⟨_,_,Ay.of (s1 _ _ e),C5 hv0,_,_,Ajm ro0,.tup (w_FIRST_ROW.sq H1) (.cons (.int _) (.cons (.tup (w_FIRST_ROW_1.sq H1) (.cons (.int _) (.cons (.int _) .nil))) .nil)),rfl,rfl,?_⟩
   have ed:PyData.eqv (rd3 r0) (.tuple [.int 0,.tuple [.int 1,.int 2]])=decide (r0=(0,1,2)):=Ad4 r0 (0,1,2)
   rw [ed]
   have bad:¬D6 rows→∀H',Ah H H'→ExN K "NoTable" E H':=fun c=>ex fun ⟨rows',er,g⟩=>c (Iy er▸g)
   refine ⟨fun h=>?_,fun h=>?_⟩
   ·have h:¬r0=(0,1,2):=by simpa using h
    refine bad (fun g=>h ?_) _ s1 _ er.y_NoTable
    have:=g.2.2.1
    rw [hr0] at this
    exact Option.some.inj this
   have h:r0=(0,1,2):=by simpa using h
   subst h
   refine ⟨_,rfl,_,Ay.of (s1 _ _ e),fun C H2 s2 e2=>?_⟩
   have e2:H2 C=some (.lst (vs'.drop 1)):=e2.trans (congrArg (fun l=>some (HO.lst l)) (Sg (j:=1) (by omega)))
   have s12:=s1.trans s2
   have ro2:At (Dn H2) vs' rows:=ro.imp fun v r h=>Cm v r _ _ (A7 s12) h
   have lz:(rows.zip (rows.drop 1)).length=rows.length-1:=by rw [List.length_zip,List.length_drop];omega
   refine ⟨⟨_,Ay.of (s12 _ _ e)⟩,⟨_,Ay.of e2⟩,Yu (ms:=rows.zip (rows.drop 1)) (fun H x y m=>Dn H x m.1∧Dn H y m.2) (fun x y m H H' kt h=>⟨Cm _ _ _ _ kt h.1,Cm _ _ _ _ kt h.2⟩) (fun _ m y=>y=V.bl (Q5 m.1 m.2)) (fun _ _ _ _ _ h=>h) (by omega) (Ay.of (s12 _ _ e)) (Ay.of e2) (by omega) (by rw [List.length_drop];omega) ?_ ?_ ?_⟩
   ·intro i x y m hx hy hm
    obtain ⟨m1,m2⟩:=List.getElem?_zip_eq_some.mp hm
    obtain ⟨a,ha,g1⟩:=ro2.get hx
    rw [List.getElem?_drop] at hy m2
    obtain ⟨b,hb,g2⟩:=ro2.get hy
    rw [ha] at m1
    rw [hb] at m2
    cases m1
    cases m2
    exact ⟨g1,g2⟩
   ·intro x y m t H3 hM hm s3 et P hP
    have q1:=Vn (hr m.1 (List.of_mem_zip hm).1)
    have q2:=Vn (hr m.2 (List.mem_of_mem_drop (List.of_mem_zip hm).2))
    have bd:∀{i:Int},0≤i→i≤9999→Bd 20 i:=fun a b=>Dy (b:=9999) (by omega) (by omega) (A0 rfl)
    exact ⟨t,_,rfl,E4.of et,rfl,_,_,rfl,_,_,rfl,rfl,rfl,m.1,m.2,hM,⟨bd (by omega) (by omega),bd (by omega) (by omega),bd (by omega) (by omega),bd (by omega) (by omega)⟩,hP _ _ (Ah.refl _) rfl⟩
   intro D3 H3 zs s3 _ e3 a3
   have y3:=Ab6 a3
   have s13:=s12.trans s3
   refine ⟨(rows.zip (rows.drop 1)).map fun m=>Q5 m.1 m.2,by rw [←y3];exact Ay.of e3,?_⟩
   rw [←Xb]
   refine ⟨fun h=>?_,fun h=>?_⟩
   ·have h:chn rows=false:=by simpa using h
    refine bad (fun g=>?_) _ s13 _ er.y_NoTable
    rw [g.2.2.2] at h
    exact nb h
   have h:chn rows=true:=by simpa using h
   refine ⟨_,.inl (Ay.of (s13 _ _ e)),fun D hD=>?_⟩
   exact k rows vs' l rfl e rfl ⟨⟨by omega,by omega⟩,hr,hr0,h⟩ D _ (s13.trans (Am hD)) (Bl s13 hD) Ad
abbrev Rw:=Int×Q2
structure Ams (r:Rw):Prop where
 f0:0≤r.1
 f1:r.1≤2000000
 t0:0≤r.2.1
 tb:r.2.1≤r.2.2
 b0:0<r.2.2
 b1:r.2.2≤9999
 g:Int.gcd r.2.1 r.2.2=1
structure Tb (rows:List Rw):Prop where
 hd:∃r rs,rows=r::rs∧r.1=0
 ok:∀r∈rows,Ams r
 len:rows.length≤10
def TbA (K:PySem.W.Frag)(H:Hp)(L:Addr)(rows:List Rw):Prop:=∃vs,Ay K H L vs∧At (Dn H) vs rows
theorem TbA.up {K:PySem.W.Frag}{H H':Hp}{L:Addr}{rows:List Rw}(s:Ah H H')(h:TbA K H L rows):TbA K H' L rows:=by
 obtain ⟨vs,h1,h2⟩:=h
 exact ⟨vs,s.seq h1,h2.imp fun v g r=>Cm v g _ _ (A7 s) r⟩
def TbL (H:Hp)(L:Addr)(rows:List Rw):Prop:=∃vs,H L=some (.lst vs)∧At (Dn H) vs rows
theorem TbL.at {K:PySem.W.Frag}{H:Hp}{L:Addr}{rows:List Rw}(h:TbL H L rows):TbA K H L rows:=by
 obtain ⟨vs,h1,h2⟩:=h
 exact ⟨vs,Ay.of h1,h2⟩
def Ni (t b:Int)(rows:List Rw)(x:Q2):Q2:=rows.foldl (fun x r=>if r.1*b≤t then r.2 else x) x
theorem Ka {t b:Int}{r:Rw}{rows:List Rw}{x:Q2}:Ni t b (r::rows) x=Ni t b rows (if r.1*b≤t then r.2 else x):=rfl
theorem Po (t b:Int):∀(rows:List Rw) (x:Q2),Ni t b rows x=(((rows.filter fun r=>decide (r.1*b≤t)).getLast?).map (·.2)).getD x
 |[],x=>rfl
 | r::rs,x=>by
  rw [Ka,Po t b rs]
  by_cases h:r.1*b≤t
  ·rw [if_pos h,List.filter_cons_of_pos (by simpa using h),List.getLast?_cons]
   cases (rs.filter fun r=>decide (r.1*b≤t)).getLast?<;>rfl
  ·rw [if_neg h,List.filter_cons_of_neg (by simpa using h)]
theorem Tr (t b:Int):∀(rows:List Rw) (x:Q2),Ni t b rows x=x∨∃r∈rows,Ni t b rows x=r.2
 |[],x=>.inl rfl
 | r::rs,x=>by
  rw [Ka]
  rcases Tr t b rs (if r.1*b≤t then r.2 else x) with e|⟨r',h,e⟩
  ·rw [e]
   by_cases h:r.1*b≤t
   ·rw [if_pos h]
    exact .inr ⟨r,List.mem_cons_self ..,rfl⟩
   ·rw [if_neg h]
    exact .inl rfl
  ·exact .inr ⟨r',List.mem_cons_of_mem _ h,e⟩
theorem Qe {t b:Int}{rows:List Rw}(h:Tb rows)(ht:0≤t)(x:Q2):∃r∈rows,Ni t b rows x=r.2:=by
 obtain ⟨r,rs,e0,e⟩:=h.hd
 rw [e0]
 have c:r.1*b≤t:=by rw [e,Int.zero_mul];exact ht
 rw [Ka,if_pos c]
 rcases Tr t b rs r.2 with e'|⟨r',h',e'⟩
 ·exact ⟨r,List.mem_cons_self ..,e'⟩
 ·exact ⟨r',List.mem_cons_of_mem _ h',e'⟩
def Ip (rows:List Rw)(t b:Int):Q2:=if t<0 then ((Ni (-t) b rows (0,1)).2-(Ni (-t) b rows (0,1)).1,(Ni (-t) b rows (0,1)).2) else Ni t b rows (0,1)
theorem M7 {rows:List Rw}{t b:Int}(h:0≤t):Ip rows t b=Ni t b rows (0,1):=if_neg (by omega)
theorem Ws {rows:List Rw}{t b:Int}(h:t<0):Ip rows t b=((Ip rows (-t) b).2-(Ip rows (-t) b).1,(Ip rows (-t) b).2):=by
 rw [M7 (show 0≤-t by omega)]
 exact if_pos h
theorem Abr (a b:Int):Int.gcd (b-a) b=Int.gcd a b:=by
 have half:∀a b:Int,(Int.gcd a b:Int)∣(Int.gcd (b-a) b:Int):=fun a b=>by
  have h1:(Int.gcd a b:Int)∣a:=Int.gcd_dvd_left ..
  have h2:(Int.gcd a b:Int)∣b:=Int.gcd_dvd_right ..
  exact Int.dvd_coe_gcd (Int.dvd_sub h2 h1) h2
 have h:=half (b-a) b
 rw [show b-(b-a)=a by omega] at h
 exact Nat.dvd_antisymm (Int.ofNat_dvd.mp h) (Int.ofNat_dvd.mp (half a b))
theorem Ah0 {a b:Int}(hb:0<b)(g:Int.gcd a b=1):Ud (1*b-a*1) (1*b)=b-a∧Ru (1*b-a*1) (1*b)=b:=by
 rw [Int.one_mul,Int.mul_one]
 have g':Int.gcd (b-a) b=1:=by rw [Abr,g]
 have t:=Sn (b-a) b
 have u:=Jn (b-a) b
 rw [g'] at t u
 unfold Ud Ru
 rw [if_neg (by omega),if_neg (by omega)]
 exact ⟨by simpa using t,by simpa using u⟩
theorem W1 {α β:Type}{R:α→β→Prop}:∀{l:List α} {m:List β},At R l m→∀{a:α},l.getLast? =some a→∃b,m.getLast? =some b∧R a b
 |_,_,.nil,a,h=>by simp at h
 |_,_,.cons x .nil,a,h=>by
  simp at h
  subst h
  exact ⟨_,rfl,x⟩
 |_,_,.cons x (.cons y r),a,h=>by
  rw [List.getLast?_cons_cons] at h ⊢
  exact W1 (.cons y r) h
def Fr (K:PySem.W.Frag)(ns:List Int):Sp:=fun vs H Q _=>match vs with
 |[.ref p,.ref q]=>∃x y:Q2,(Fq 1000 H p x.1 x.2∧Fq 1000 H q y.1 y.2)∧∀r H',Ah H H'→Yo H' r (x.1*y.2-y.1*x.2) (x.2*y.2)→Q (.ref r) H'
 |_=>False
theorem Aab:Al ["one","other"] ["one","other"] (Af P1):=⟨rfl,rfl,rfl,by decide +kernel,rfl,by decide +kernel,by decide +kernel⟩
theorem Aa4 (d:B8 K mg "minus" P1 ["one","other"])(er:Bg K mg c_Capped c_Early c_Ledger c_NoTable c_Rested c_Rule)   (c_fraction:Bm P w K mg base "fraction" ["top","bottom"] 2 (Dw K ns)):Bm P w K mg base "minus" ["one","other"] 3 (Fr K ns):=by
 refine d.cal (k:=2) Aab (fun vs H Q E h=>?_) (fun f cdv A outer s H vs Q E hr h=>?_)
 ·match vs,h with
  |[.ref p,.ref q],_=>rfl
 ·match vs,h with
  | [.ref p,.ref q],hq0=>
   obtain ⟨x,y,⟨h1,h2⟩,k⟩:=hq0
   refine ⟨_,(@Ag _ _ _ (@Aq _ _ _ _ (@An _ _ _ _ _ _ _ _ _ _ _ c_fraction hr (by decide) (by rfl) (@Aa _ _ _ _ _ (@Aj _ _ _ _ _ _ _ _ Sj (@Aj _ _ _ _ _ _ _ _ Cw (@Ap _ _ _ _ _ _ _ Av (dv 0) Ab (fun _ _=>rfl)) (@Ap _ _ _ _ _ _ _ Av (dv 1) Ab (fun _ _=>rfl))) (@Aj _ _ _ _ _ _ _ _ Cw (@Ap _ _ _ _ _ _ _ Av (dv 1) Ab (fun _ _=>rfl)) (@Ap _ _ _ _ _ _ _ Av (dv 0) Ab (fun _ _=>rfl)))) (@Aa _ _ _ _ _ (@Aj _ _ _ _ _ _ _ _ Cw (@Ap _ _ _ _ _ _ _ Av (dv 0) Ab (fun _ _=>rfl)) (@Ap _ _ _ _ _ _ _ Av (dv 1) Ab (fun _ _=>rfl))) Ac (by rfl)) (by rfl)) (by decide) (by rfl) (by rfl)))),?_⟩
   exact ⟨_,h1.at',_,h2.at',Xw h1.ba h2.bb (by decide) (by decide),_,h2.at',_,h1.at',Xw h2.ba h1.bb (by decide) (by decide),_,h1.at',_,h2.at',Xw h1.bb h2.bb (by decide) (by decide),
    ⟨Int.ne_of_gt (Int.mul_pos h1.pos h2.pos),(h1.bb.mul h2.bb).mono (by decide)⟩,k⟩
def Wc (K:PySem.W.Frag)(ns:List Int):Sp:=fun vs H Q _=>match vs with
 |[.ref p,.ref q]=>∃x y:Q2,(Fq 1000 H p x.1 x.2∧Fq 1000 H q y.1 y.2)∧∀r H',Ah H H'→Yo H' r (x.1*y.2+y.1*x.2) (x.2*y.2)→Q (.ref r) H'
 |_=>False
theorem Aep:Al ["one","other"] ["one","other"] (Af Vg):=⟨rfl,rfl,rfl,by decide +kernel,rfl,by decide +kernel,by decide +kernel⟩
theorem Acv (d:B8 K mg "plus" Vg ["one","other"])(er:Bg K mg c_Capped c_Early c_Ledger c_NoTable c_Rested c_Rule)   (c_fraction:Bm P w K mg base "fraction" ["top","bottom"] 2 (Dw K ns)):Bm P w K mg base "plus" ["one","other"] 3 (Wc K ns):=by
 refine d.cal (k:=2) Aep (fun vs H Q E h=>?_) (fun f cdv A outer s H vs Q E hr h=>?_)
 ·match vs,h with
  |[.ref p,.ref q],_=>rfl
 ·match vs,h with
  | [.ref p,.ref q],hq0=>
   obtain ⟨x,y,⟨h1,h2⟩,k⟩:=hq0
   refine ⟨_,(@Ag _ _ _ (@Aq _ _ _ _ (@An _ _ _ _ _ _ _ _ _ _ _ c_fraction hr (by decide) (by rfl) (@Aa _ _ _ _ _ (@Aj _ _ _ _ _ _ _ _ Cg (@Aj _ _ _ _ _ _ _ _ Cw (@Ap _ _ _ _ _ _ _ Av (dv 0) Ab (fun _ _=>rfl)) (@Ap _ _ _ _ _ _ _ Av (dv 1) Ab (fun _ _=>rfl))) (@Aj _ _ _ _ _ _ _ _ Cw (@Ap _ _ _ _ _ _ _ Av (dv 1) Ab (fun _ _=>rfl)) (@Ap _ _ _ _ _ _ _ Av (dv 0) Ab (fun _ _=>rfl)))) (@Aa _ _ _ _ _ (@Aj _ _ _ _ _ _ _ _ Cw (@Ap _ _ _ _ _ _ _ Av (dv 0) Ab (fun _ _=>rfl)) (@Ap _ _ _ _ _ _ _ Av (dv 1) Ab (fun _ _=>rfl))) Ac (by rfl)) (by rfl)) (by decide) (by rfl) (by rfl)))),?_⟩
   exact ⟨_,h1.at',_,h2.at',Xw h1.ba h2.bb (by decide) (by decide),_,h2.at',_,h1.at',Xw h2.ba h1.bb (by decide) (by decide),_,h1.at',_,h2.at',Xw h1.bb h2.bb (by decide) (by decide),
    ⟨Int.ne_of_gt (Int.mul_pos h1.pos h2.pos),(h1.bb.mul h2.bb).mono (by decide)⟩,k⟩
def Eg:Nat→PySem.W.Frag→List Int→Sp
 |0,_,_=>fun _ _ _ _=>False
 |d+1,K,ns=>fun vs H Q _=>match vs with
  |[.ref L,.ref p]=>∃(rows:List Rw) (x:Q2),(TbA K H L rows∧Tb rows∧Fq 1300 H p x.1 x.2∧(x.1<0→0<d))∧∀r H',Ah H H'→H' r=some (.tup [.int (Ip rows x.1 x.2).1,.int (Ip rows x.1 x.2).2])→Q (.ref r) H'
  |_=>False
def Gp (K:PySem.W.Frag)(ns:List Int):Sp:=Eg 2 K ns
theorem G1:Al ["table","difference","begun"] ["table","difference"] (Af Er):=⟨rfl,rfl,rfl,by decide +kernel,rfl,by decide +kernel,by decide +kernel⟩
theorem Rc (d:B8 K mg "share_by" Er ["table","difference"])(er:Bg K mg c_Capped c_Early c_Ledger c_NoTable c_Rested c_Rule)   (c_under:Bm P w K mg base "under" ["one","other"] 1 (Fo K ns))(c_minus:Bm P w K mg base "minus" ["one","other"] 3 (Fr K ns))  (dd:Nat)(c_share_by:Bm P w K mg base "share_by" ["table","difference"] (4+dd) (Eg dd K ns)):Bm P w K mg base "share_by" ["table","difference"] (4+(dd+1)) (Eg (dd+1) K ns):=by
 refine d.cal (k:=4+dd) G1 (fun vs H Q E h=>?_) (fun f cdv A outer s H vs Q E hr h=>?_)
 ·match vs,h with
  |[.ref L,.ref p],_=>rfl
 ·match vs,h with
  | [.ref L,.ref p],hq0=>
   obtain ⟨rows,x,⟨hT,tb,f,hd⟩,k⟩:=hq0
   refine ⟨_,(@Ae _ _ _ _ _ (@D8 _ _ _ _ _ _ _ _ (@Bv _ _ _ _ _ _ _ _ Vl (@Ap _ _ _ _ _ _ _ Av (dv 1) Ab (fun _ _=>rfl)) Ab (@A5 _ _ (by decide) (by decide))) (@Ag _ _ _ (@Aq _ _ _ _ (@An _ _ _ _ _ _ _ _ _ _ _ c_minus hr (by omega) (by rfl) (@Aa _ _ _ _ _ (@Ca _ _ _ _ _ (@Aa _ _ _ _ _ Ab (@Aa _ _ _ _ _ Ab Ac (by rfl)) (by rfl))) (@Aa _ _ _ _ _ (@An _ _ _ _ _ _ _ _ _ _ _ c_share_by hr (by omega) (by rfl) (@Aa _ _ _ _ _ (dv 0) (@Aa _ _ _ _ _ (@Ca _ _ _ _ _ (@Aa _ _ _ _ _ (@Op _ _ _ _ _ _ O5 (@Ap _ _ _ _ _ _ _ Av (dv 1) Ab (fun _ _=>rfl))) (@Aa _ _ _ _ _ (@Ap _ _ _ _ _ _ _ Av (dv 1) Ab (fun _ _=>rfl)) Ac (by rfl)) (by rfl))) Ac (by rfl)) (by rfl)) (by decide) (by rfl) (by rfl)) Ac (by rfl)) (by rfl)) (by decide) (by rfl) (by rfl)))) A8) (@Ae _ _ _ _ _ (@Xi _ _ _ _ _ _ _ _ _ (2) _ _ _ _ _ _ ["row"] ["difference"] [1] rfl (@Dq _ _ _ _ (dv 0)) (fun C s H fp=>(@A6 _ _ (0) _ (show List.Nodup [("row":Str),("difference":Str)] by decide +kernel) rfl (by trivial) (by trivial))) (fun C s H fp=>(@D7 _ _ _ _ (@Ft _ _ _ (@An _ _ _ _ _ _ _ _ _ _ _ c_under hr (by omega) (by rfl) (@Aa _ _ _ _ _ (dv 1) (@Aa _ _ _ _ _ (@Ca _ _ _ _ _ (@Aa _ _ _ _ _ (@Ap _ _ _ _ _ _ _ Av (dv 0) Ab (fun _ _=>rfl)) (@Aa _ _ _ _ _ Ab Ac (by rfl)) (by rfl))) Ac (by rfl)) (by rfl)) (by decide) (by rfl) (by rfl)) (by intro _;rfl)))) (fun C s H fp=>(dv 0)) rfl rfl (by decide +kernel) (by decide +kernel) (by rfl) ⟨rfl,True.intro⟩ ⟨⟨rfl,rfl,rfl,rfl⟩,True.intro⟩ G1.nd rfl rfl (by intro _;rfl) (by rfl)) (@Ag _ _ _ (@Aq _ _ _ _ (@Ap _ _ _ _ _ _ _ Av (@Ap _ _ _ _ _ _ _ Dd (dv 2) (@Op _ _ _ _ _ _ O5 Ab) (fun _ _=>rfl)) Ab (fun _ _=>rfl)))))),?_⟩
   refine ⟨_,f.at',⟨fun h=>?_,fun h=>?_⟩⟩
   ·have hneg:x.1<0:=of_decide_eq_true h
    clear h
    cases dd with
    |zero=>exact absurd (hd hneg) (by decide)
    |succ d' =>
     refine fun T1 H1 s1 e1=>?_
     have f1:=f.up s1
     refine ⟨_,f1.at',_,f1.at',fun T2 H2 s2 e2=>?_⟩
     have f2:Fq 1300 H2 T2 (-x.1) x.2:=⟨e2,f.pos,f.ba.neg,f.bb⟩
     refine ⟨rows,(-x.1,x.2),⟨hT.up (s1.trans s2),tb,f2,fun z=>absurd z (by show ¬(-x.1<0);omega)⟩,fun r H3 s3 e3=>?_⟩
     have ht:0≤-x.1:=by omega
     obtain ⟨m,hm,em⟩:=Qe (b:=x.2) tb ht (0,1)
     have o:=tb.ok m hm
     have em:Ip rows (-x.1) x.2=m.2:=(M7 ht).trans em
     have e3:H3 r=some (.tup [.int m.2.1,.int m.2.2]):=by rw [←em];exact e3
     have o1:=o.t0
     have o2:=o.tb
     have o3:=o.b0
     have o4:=o.b1
     have b1:Bd 1000 m.2.1:=Dy (b:=9999) (by omega) (by omega) (A0 rfl)
     have b2:Bd 1000 m.2.2:=Dy (b:=9999) (by omega) (by omega) (A0 rfl)
     refine ⟨(1,1),m.2,⟨⟨(s2.trans s3) _ _ e1,by decide,A0 rfl,A0 rfl⟩,⟨e3,o3,b1,b2⟩⟩,fun r' H4 s4 e4=>?_⟩
     refine k r' H4 (s1.trans (s2.trans (s3.trans s4))) ?_
     obtain ⟨u1,u2⟩:=Ah0 o3 o.g
     have e5:=e4.at'
     rw [Ws hneg,em]
     refine e5.trans ?_
     show some (HO.tup [V.int (Ud (1*m.2.2-m.2.1*1) (1*m.2.2)),V.int (Ru (1*m.2.2-m.2.1*1) (1*m.2.2))])=_
     rw [u1,u2]
   ·have h:=of_decide_eq_false h
    have hnn:0≤x.1:=by omega
    clear h
    obtain ⟨vs,hx,hm⟩:=hT
    have hc:(fun r:Rw=>!ltQ x (r.1,1))=fun r:Rw=>decide (r.1*x.2≤x.1):=by
     funext r
     show (!decide (x.1*1<r.1*x.2))=decide (r.1*x.2≤x.1)
     rw [Int.mul_one]
     by_cases c:r.1*x.2≤x.1
     ·rw [decide_eq_true c,decide_eq_false (by omega)]
      rfl
     ·rw [decide_eq_false c,decide_eq_true (by omega)]
      rfl
    have fx:Fq 1900 H p x.1 x.2:=f.mono (by decide)
    refine ⟨L,rfl,⟨_,hx⟩,Pf Dn Cm (fun H r y=>Dn H y r) (fun r y H H' kt h=>Cm y r H H' kt h) (fun r=>!ltQ x (r.1,1)) (by rw [hm.len];have:=tb.len;omega) hx hm ?_ ?_⟩
    ·intro v m H2 hM hm2 s2 P P' hP hP'
     obtain ⟨p',q',rfl,e1,e2⟩:=hM
     have o:=tb.ok m hm2
     have o1:=o.f0
     have o2:=o.f1
     have bm:Bd 1900 m.1:=Dy (b:=2000000) (by omega) (by omega) (A0 rfl)
     refine ⟨rfl,_,e1,fun T H3 s3 e3=>⟨x.1,x.2,m.1,1,⟨((fx.up s2).up s3).at',e3⟩,⟨fx.ba,fx.bb,bm,A0 rfl⟩,⟨fun h=>hP h _ _ s3 ⟨p',q',rfl,s3 _ _ e1,s3 _ _ e2⟩,fun h=>hP' h _ s3⟩⟩⟩
    intro D H1 ys s1 d1 e1 a1
    rw [hc] at a1
    obtain ⟨r0,rs,er0,z0⟩:=tb.hd
    have c0:r0∈rows.filter fun r=>decide (r.1*x.2≤x.1):=by
     refine List.mem_filter.mpr ⟨by rw [er0];exact List.mem_cons_self ..,?_⟩
     rw [z0,Int.zero_mul]
     exact decide_eq_true hnn
    obtain ⟨m,hm⟩:∃m,(rows.filter fun r=>decide (r.1*x.2≤x.1)).getLast? =some m:=by
     cases e:(rows.filter fun r=>decide (r.1*x.2≤x.1)).getLast? with
     |none=>
      rw [List.getLast?_eq_none_iff] at e
      rw [e] at c0
      simp at c0
     |some m=>exact ⟨m,rfl⟩
    obtain ⟨v,hv,p',q',rfl,g1,g2⟩:=W1 a1 hm
    have em:Ip rows x.1 x.2=m.2:=by
     rw [M7 hnn,Po,hm]
     rfl
    refine ⟨_,.ref p',Ay.of e1,Sr hv,_,g1,k q' H1 s1 ?_⟩
    rw [em]
    exact g2
theorem Iv (d:B8 K mg "share_by" Er ["table","difference"])(er:Bg K mg c_Capped c_Early c_Ledger c_NoTable c_Rested c_Rule)   (c_under:Bm P w K mg base "under" ["one","other"] 1 (Fo K ns))(c_minus:Bm P w K mg base "minus" ["one","other"] 3 (Fr K ns)): ∀dd:Nat,Bm P w K mg base "share_by" ["table","difference"] (4+dd) (Eg dd K ns)
 |0=>d.cal (k:=3) G1 (fun vs H Q E h=>False.elim h) (fun f cdv A outer s H vs Q E hr h=>False.elim h)
 |dd+1=>Rc d er c_under c_minus dd (Iv d er c_under c_minus dd)
theorem Tx (d:B8 K mg "share_by" Er ["table","difference"])(er:Bg K mg c_Capped c_Early c_Ledger c_NoTable c_Rested c_Rule)   (c_under:Bm P w K mg base "under" ["one","other"] 1 (Fo K ns))(c_minus:Bm P w K mg base "minus" ["one","other"] 3 (Fr K ns)):Bm P w K mg base "share_by" ["table","difference"] 6 (Gp K ns):=Iv d er c_under c_minus 2
def Fk (K:PySem.W.Frag)(ns:List Int):Sp:=fun vs H Q _=>match vs with
 |[.ref a,.int k]=>Ay K H a (ns.map V.int)∧(0≤k∧k<1000∧Rm ns)∧∀c,Q (.int c) H
 |_=>False
theorem Kb:Al ["_law_script","_law_k","_law_number_here"] ["_law_script","_law_k"] (Af No):=⟨rfl,rfl,rfl,by decide +kernel,rfl,by decide +kernel,by decide +kernel⟩
theorem Xu (d:B8 K mg "_law_cell" No ["_law_script","_law_k"])(er:Bg K mg c_Capped c_Early c_Ledger c_NoTable c_Rested c_Rule)(n_len:mg "len"=none)  :Bm P w K mg base "_law_cell" ["_law_script","_law_k"] 1 (Fk K ns):=by
 refine d.cal (k:=0) Kb (fun vs H Q E h=>?_) (fun f cdv A outer s H vs Q E hr h=>?_)
 ·match vs,h with
  |[.ref a,.int k],_=>rfl
 ·match vs,h with
  | [.ref a,.int k],hq0=>
   obtain ⟨hS,⟨k0,k1,hb⟩,q⟩:=hq0
   refine ⟨_,(@Ae _ _ _ _ _ (@D8 _ _ _ _ _ _ _ _ (@Bv _ _ _ _ _ _ _ _ Vl (dv 1) (@Aw _ _ _ _ _ _ _ _ _ Df (by rfl) n_len (by decide +kernel) (@Aa _ _ _ _ _ (dv 0) Ac (by rfl)) (by decide) (by decide) (by rfl) (by rfl)) (@A5 _ _ (by decide) (by decide))) (@Ag _ _ _ (@Aq _ _ _ _ (@Ap _ _ _ _ _ _ _ Dd (dv 0) (dv 1) (fun _ _=>rfl)))) A8) (@Ae _ _ _ _ _ (@Au _ _ (2) _ _ _ _ Kb.nd rfl (by trivial) (@Aj _ _ _ _ _ _ _ _ Cg (@Aj _ _ _ _ _ _ _ _ Cw Ab (dv 1)) Ab) (by rfl) (by trivial)) (@Eu _ _ _ _ _ (@D8 _ _ _ _ _ _ _ _ (@Bv _ _ _ _ _ _ _ _ Ad3 (@Aw _ _ _ _ _ _ _ _ _ Df (by rfl) n_len (by decide +kernel) (@Aa _ _ _ _ _ (dv 0) Ac (by rfl)) (by decide) (by decide) (by rfl) (by rfl)) Ab (@A5 _ _ (by decide) (by decide))) (@Ag _ _ _ (@Au _ _ (2) _ _ _ _ Kb.nd rfl (by trivial) (@Aj _ _ _ _ _ _ _ _ Cg (@Aj _ _ _ _ _ _ _ _ Cg (@Aj _ _ _ _ _ _ _ _ Cw (@Ap _ _ _ _ _ _ _ Dd (dv 0) (@Aj _ _ _ _ _ _ _ _ Bn (@Aj _ _ _ _ _ _ _ _ Cw (dv 1) Ab) (@Aw _ _ _ _ _ _ _ _ _ Df (by rfl) n_len (by decide +kernel) (@Aa _ _ _ _ _ (dv 0) Ac (by rfl)) (by decide) (by decide) (by rfl) (by rfl))) (fun _ _=>rfl)) Ab) (@Aj _ _ _ _ _ _ _ _ Cw (@Aj _ _ _ _ _ _ _ _ Cw (dv 1) (dv 1)) Ab)) Ab) (by rfl) (by trivial))) A8) (@Ag _ _ _ (@Aq _ _ _ _ (@Aj _ _ _ _ _ _ _ _ Bn (@Aj _ _ _ _ _ _ _ _ Ahv (dv 2) (dv 2)) Ab)))))),?_⟩
   refine ⟨_,.inl hS,?_⟩
   rw [List.length_map]
   refine ⟨fun h=>?_,fun h=>?_⟩
   ·have h:=of_decide_eq_true h
    obtain ⟨j,rfl⟩:=Int.eq_ofNat_of_zero_le k0
    have hj:j<ns.length:=by omega
    refine ⟨_,.int ns[j],hS,C5 ?_,q _⟩
    rw [List.getElem?_map,List.getElem?_eq_getElem hj]
    rfl
   ·clear h
    refine ⟨.inr (.inl ⟨by decide,by decide⟩),?_⟩
    refine ⟨fun σ H'=>∃z:Int,σ=[some (.ref a),some (.int k),some (.int z)]∧H'=H∧Builtin.Int.intBits z≤1100000,⟨_,.inl hS,⟨fun h=>?_,fun h=>⟨_,rfl,rfl,Nat.le_trans (intBits_le_64 (by omega) (by omega)) (by decide)⟩⟩⟩,?_⟩
    ·have h:=of_decide_eq_true h
     rw [List.length_map] at h
     refine ⟨.inr (.inr ⟨by decide,by decide⟩),_,.inl hS,?_⟩
     rw [List.length_map]
     refine ⟨h,?_⟩
     obtain ⟨n,hn,hv⟩:=Agh ns (show 0<ns.length by omega) (k*_)
     have kk:=Xv k0 k1
     refine ⟨_,.int n,hS,hv,.inr (.inr ⟨by decide,by decide⟩),.inr (.inl ⟨by omega,by omega⟩),.inr (.inr ⟨by decide,by decide⟩),_,rfl,rfl,?_⟩
     refine Nat.le_trans (bits_add (m:=1048576+65) (n:=64) (Nat.le_trans (bits_add (m:=1048576+64) (n:=64) (bits_mul (m:=1048576) (n:=64) (hb n hn) (intBits_le_64 (by decide) (by decide))) (intBits_le_64 (by omega) (by omega))) (by decide)) (intBits_le_64 (by decide) (by decide))) (by decide)
    ·rintro σ H' ⟨z,rfl,rfl,bz⟩
     exact ⟨mulOk_of_bits bz bz (by decide),(by show (0:Int)<_;decide),q _⟩
def Kn (K:PySem.W.Frag)(so:Int)(C:Addr):Prop:=(so=0∧PySem.W.nsIn K mainGlobals "Rule"=some (some (.ref C)))∨(so=1∧PySem.W.nsIn K mainGlobals "Early"=some (some (.ref C)))∨(so=2∧PySem.W.nsIn K mainGlobals "Rested"=some (some (.ref C)))∨(so=3∧PySem.W.nsIn K mainGlobals "Capped"=some (some (.ref C)))
structure Yb (fs:List (Str×V))(so st fi one two:Int)(T:Addr):Prop where
 st:fs.lookup ("step":Str)=some (.int st)
 fi:fs.lookup ("first":Str)=some (.int fi)
 tb:fs.lookup ("table":Str)=some (.ref T)
 sz:fs.lookup ("size":Str)=none
 bt:fs.lookup ("bit":Str)=none
 tw:fs.lookup ("twin":Str)=none
 x1:so=1→fs.lookup ("early":Str)=some (.int one)∧fs.lookup ("many":Str)=some (.int two)
 x2:so=2→fs.lookup ("pause":Str)=some (.int one)∧fs.lookup ("times":Str)=some (.int two)
 x3:so=3→fs.lookup ("cap":Str)=some (.int one)
theorem Ao {K:PySem.W.Frag}{x:Str}{C D:Addr}(h:PySem.W.nsIn K mainGlobals x=some (some (.ref C)))(h':PySem.W.nsIn K mainGlobals x=some (some (.ref D))):C=D:=by
 rw [h] at h'
 cases h'
 rfl
def Db (K:PySem.W.Frag)(ns:List Int):Sp:=fun vs H Q _=>match vs with
 |[.ref a,.int p,.int r]=>∃C dx fs st,(H a=some (.ins C dx fs)∧Iq K C∧NoAttr K C "step"∧fs.lookup ("step":Str)=some (.int st))∧Q (.int st) H
 |_=>False
theorem Ri:Al ["self","played","rest"] ["self","played","rest"] (Af Gz):=⟨rfl,rfl,rfl,by decide +kernel,rfl,by decide +kernel,by decide +kernel⟩
theorem Pr (d:B0 K [c_Rule,c_Capped] [] "size" "Rule.size" Gz ["self","played","rest"])(er:Bg K mg c_Capped c_Early c_Ledger c_NoTable c_Rested c_Rule)   :Be P w K mg base [c_Rule,c_Capped] [] "size" ["self","played","rest"] 1 (Db K ns):=by
 refine d.cal (k:=0) Ri (fun vs H Q E h=>?_) (fun f cdv A outer s H vs Q E hr h=>?_)
 ·match vs,h with
  |[.ref a,.int p,.int r],_=>rfl
 ·match vs,h with
  |[.ref a,.int p,.int r],hq0=>
   obtain ⟨C,dx,fs,st,⟨h1,h2,h3,h4⟩,q⟩:=hq0
   refine ⟨_,(@Ag _ _ _ (@Aq _ _ _ _ (@Ax _ _ _ _ _ (dv 0) (by rfl)))),?_⟩
   exact ⟨a,C,dx,fs,_,rfl,h1,h2,h3,h4,q⟩
def Dt (K:PySem.W.Frag)(ns:List Int):Sp:=fun vs H Q _=>match vs with
 |[.ref a,.int p,.int r]=>∃C dx fs st one two,(H a=some (.ins C dx fs)∧Iq K C∧NoAttr K C "step"∧NoAttr K C "early"∧NoAttr K C "many"∧fs.lookup ("step":Str)=some (.int st)∧fs.lookup ("early":Str)=some (.int one)∧fs.lookup ("many":Str)=some (.int two))∧Q (.int (if p<two then one else st)) H
 |_=>False
theorem Nw:Al ["self","played","rest"] ["self","played","rest"] (Af Fv):=⟨rfl,rfl,rfl,by decide +kernel,rfl,by decide +kernel,by decide +kernel⟩
theorem N7 (d:B0 K [c_Early] [] "size" "Early.size" Fv ["self","played","rest"])(er:Bg K mg c_Capped c_Early c_Ledger c_NoTable c_Rested c_Rule)   :Be P w K mg base [c_Early] [] "size" ["self","played","rest"] 1 (Dt K ns):=by
 refine d.cal (k:=0) Nw (fun vs H Q E h=>?_) (fun f cdv A outer s H vs Q E hr h=>?_)
 ·match vs,h with
  |[.ref a,.int p,.int r],_=>rfl
 ·match vs,h with
  | [.ref a,.int p,.int r],hq0=>
   obtain ⟨C,dx,fs,st,one,two,⟨h1,h2,h3,h4,h5,h6,h7,h8⟩,q⟩:=hq0
   refine ⟨_,(@Ag _ _ _ (@Aq _ _ _ _ (@Aec _ _ _ _ _ _ _ _ (@Bv _ _ _ _ _ _ _ _ Vl (dv 1) (@Ax _ _ _ _ _ (dv 0) (by rfl)) (@A5 _ _ (by decide) (by decide))) (@Ax _ _ _ _ _ (dv 0) (by rfl)) (@Ax _ _ _ _ _ (dv 0) (by rfl))))),?_⟩
   refine ⟨a,C,dx,fs,_,rfl,h1,h2,h5,h8,⟨fun h=>?_,fun h=>?_⟩⟩
   ·have h:p<two:=of_decide_eq_true h
    rw [if_pos h] at q
    exact ⟨a,C,dx,fs,_,rfl,h1,h2,h4,h7,q⟩
   ·have h:¬p<two:=of_decide_eq_false h
    rw [if_neg h] at q
    exact ⟨a,C,dx,fs,_,rfl,h1,h2,h3,h6,q⟩
def C7 (K:PySem.W.Frag)(ns:List Int):Sp:=fun vs H Q _=>match vs with
 |[.ref a,.int p,.int r]=>∃C dx fs st one two,(H a=some (.ins C dx fs)∧Iq K C∧NoAttr K C "step"∧NoAttr K C "pause"∧NoAttr K C "times"∧fs.lookup ("step":Str)=some (.int st)∧fs.lookup ("pause":Str)=some (.int one)∧fs.lookup ("times":Str)=some (.int two)∧Bd 40 st∧Bd 40 two)∧Q (.int (if one<r then st*two else st)) H
 |_=>False
theorem Np:Al ["self","played","rest"] ["self","played","rest"] (Af Fc):=⟨rfl,rfl,rfl,by decide +kernel,rfl,by decide +kernel,by decide +kernel⟩
theorem Mx (d:B0 K [c_Rested] [] "size" "Rested.size" Fc ["self","played","rest"])(er:Bg K mg c_Capped c_Early c_Ledger c_NoTable c_Rested c_Rule)   :Be P w K mg base [c_Rested] [] "size" ["self","played","rest"] 1 (C7 K ns):=by
 refine d.cal (k:=0) Np (fun vs H Q E h=>?_) (fun f cdv A outer s H vs Q E hr h=>?_)
 ·match vs,h with
  |[.ref a,.int p,.int r],_=>rfl
 ·match vs,h with
  | [.ref a,.int p,.int r],hq0=>
   obtain ⟨C,dx,fs,st,one,two,⟨h1,h2,h3,h4,h5,h6,h7,h8,b1,b2⟩,q⟩:=hq0
   refine ⟨_,(@Ag _ _ _ (@Aq _ _ _ _ (@Aec _ _ _ _ _ _ _ _ (@Bv _ _ _ _ _ _ _ _ Ad3 (dv 2) (@Ax _ _ _ _ _ (dv 0) (by rfl)) (@A5 _ _ (by decide) (by decide))) (@Aj _ _ _ _ _ _ _ _ Cw (@Ax _ _ _ _ _ (dv 0) (by rfl)) (@Ax _ _ _ _ _ (dv 0) (by rfl))) (@Ax _ _ _ _ _ (dv 0) (by rfl))))),?_⟩
   refine ⟨a,C,dx,fs,_,rfl,h1,h2,h4,h7,⟨fun h=>?_,fun h=>?_⟩⟩
   ·have h:one<r:=of_decide_eq_true h
    rw [if_pos h] at q
    exact ⟨a,C,dx,fs,_,rfl,h1,h2,h3,h6,a,C,dx,fs,_,rfl,h1,h2,h5,h8,Xw b1 b2 (by decide) (by decide),q⟩
   ·have h:¬one<r:=of_decide_eq_false h
    rw [if_neg h] at q
    exact ⟨a,C,dx,fs,_,rfl,h1,h2,h3,h6,q⟩
theorem Ea {f:Str}{v:V}{fs:List (Str×V)}:(Ba f v fs).lookup f=some v:=by rw [E1,if_pos rfl]
theorem Ai {f g:Str}{v:V}{fs:List (Str×V)}{o:Option V}(ne:g≠f)(h:fs.lookup g=o):(Ba f v fs).lookup g=o:=by rw [E1,if_neg ne,h]
def Sx (x:Addr)(H H':Hp):Prop:=∀b o,b≠x→H b=some o→H' b=some o
theorem Sx.upd {x:Addr}{H:Hp}{o:HO}:Sx x H (upd H x o):=fun b u ne e=>by rw [Ak ne];exact e
theorem Sx.trans {x:Addr}{H H1 H2:Hp}(a:Sx x H H1)(b:Sx x H1 H2):Sx x H H2:=fun c o ne e=>b c o ne (a c o ne e)
theorem Sx.of {x:Addr}{H H':Hp}(s:Ah H H'):Sx x H H':=fun b o _ e=>s b o e
theorem Sx.kt {x C dx:Addr}{fs:List (Str×V)}{H H':Hp}(a:Sx x H H')(h:H x=some (.ins C dx fs)):Kt H H':=fun p xs e=>a p _ (fun z=>by rw [z,h] at e;cases e) e
def Yr (st fi:Int)(T:Addr)(fs:List (Str×V)):List (Str×V):=Ba "table" (.ref T) (Ba "first" (.int fi) (Ba "step" (.int st) fs))
theorem Mm {st fi:Int}{T:Addr}{fs:List (Str×V)}:(Yr st fi T fs).length≤fs.length+3:=by
 unfold Yr
 have h1:=Bf "step" (.int st) fs
 have h2:=Bf "first" (.int fi) (Ba "step" (.int st) fs)
 have h3:=Bf "table" (.ref T) (Ba "first" (.int fi) (Ba "step" (.int st) fs))
 omega
def Bp (K:PySem.W.Frag)(ns:List Int):Sp:=fun vs H Q _=>match vs with
 |[.ref x,.int st,.int fi,.ref L]=>∃C dx fs rows vs,(H x=some (.ins C dx fs)∧Iq K C∧NoAttr K C "step"∧NoAttr K C "first"∧NoAttr K C "table"∧fs.length<900∧H L=some (.lst vs)∧At (Dn H) vs rows∧D6 rows) ∧
  ∀T H',Sx x H H'→T≠x→H T=none→H' T=some (.lst vs)→H' x=some (.ins C dx (Yr st fi T fs))→Q .non H'
 |_=>False
theorem J7:Al ["self","step","first","table"] ["self","step","first","table"] (Af D9):=⟨rfl,rfl,rfl,by decide +kernel,rfl,by decide +kernel,by decide +kernel⟩
theorem Jv (d:B0 K [c_Rule] [c_Rule] "__init__" "Rule.__init__" D9 ["self","step","first","table"])(er:Bg K mg c_Capped c_Early c_Ledger c_NoTable c_Rested c_Rule)   (c_table_of:Bm P w K mg base "table_of" ["rows"] 5 (Kz K ns)):Be P w K mg base [c_Rule] [c_Rule] "__init__" ["self","step","first","table"] 6 (Bp K ns):=by
 refine d.cal (k:=5) J7 (fun vs H Q E h=>?_) (fun f cdv A outer s H vs Q E hr h=>?_)
 ·match vs,h with
  |[.ref x,.int st,.int fi,.ref L],_=>rfl
 ·match vs,h with
  | [.ref x,.int st,.int fi,.ref L],hq0=>
   obtain ⟨C,dx,fs,rows,vs,⟨h1,h2,n1,n2,n3,l9,hL,al,good⟩,k⟩:=hq0
   refine ⟨_,(@Ae _ _ _ _ _ (@Ec _ _ _ _ _ _ _ _ (dv 0) (dv 1) rfl) (@Ae _ _ _ _ _ (@Ec _ _ _ _ _ _ _ _ (dv 0) (dv 2) rfl) (@Ag _ _ _ (@Ec _ _ _ _ _ _ _ _ (dv 0) (@An _ _ _ _ _ _ _ _ _ _ _ c_table_of hr (by decide) (by rfl) (@Aa _ _ _ _ _ (dv 3) Ac (by rfl)) (by decide) (by rfl) (by rfl)) rfl)))),?_⟩
   have l1:=Bf "step" (.int st) fs
   have l2:=Bf "first" (.int fi) (Ba "step" (.int st) fs)
   have nL:L≠x:=fun z=>by rw [z,h1] at hL;cases hL
   refine ⟨x,C,dx,fs,rfl,h1,h2,n1,by omega,⟨x,C,dx,_,rfl,Ad,h2,n2,by omega,?_⟩⟩
   have s2:Sx x H (upd (upd H x (.ins C dx (Ba "step" (.int st) fs))) x (.ins C dx (Ba "first" (.int fi) (Ba "step" (.int st) fs)))):=Sx.trans Sx.upd Sx.upd
   have e2:upd (upd H x (.ins C dx (Ba "step" (.int st) fs))) x (.ins C dx (Ba "first" (.int fi) (Ba "step" (.int st) fs))) x=some (.ins C dx (Ba "first" (.int fi) (Ba "step" (.int st) fs))):=Ad
   generalize upd (upd H x (.ins C dx (Ba "step" (.int st) fs))) x (.ins C dx (Ba "first" (.int fi) (Ba "step" (.int st) fs)))=H2 at s2 e2
   have hL2:=s2 _ _ nL hL
   have al2:At (Dn H2) vs rows:=al.imp fun v g r=>Cm v g _ _ (s2.kt h1) r
   have lv:vs.length=rows.length:=al.len
   have lr:=good.1
   refine ⟨some (rows.map some),.inl ⟨L,vs,rows.map some,rfl,hL2,by omega,Ae8 al2,rfl⟩,fun h=>absurd ⟨rows,rfl,good⟩ (h _ rfl),fun rows' vs' l' el hl' eo _ T H3 s3 n3' e3=>?_⟩
   cases el
   rw [hL2] at hl'
   cases hl'
   have nT:T≠x:=fun z=>by rw [z,e2] at n3';cases n3'
   refine ⟨x,C,dx,_,rfl,s3 _ _ e2,h2,n3,by omega,?_⟩
   refine k T _ (s2.trans (Sx.trans (Sx.of s3) Sx.upd)) nT ?_ (by rw [Ak nT];exact e3) Ad
   cases e:H T with
   |none=>rfl
   |some o=>
    rw [s2 _ _ nT e] at n3'
    cases n3'
theorem fd0 {st fi:Int}{T:Addr}{fs:List (Str×V)}(h:fs=[]):Yb (Yr st fi T fs) 0 st fi 0 0 T:=by
 subst h
 exact ⟨Ai (by decide +kernel) (Ai (by decide +kernel) Ea),Ai (by decide +kernel) Ea,Ea,Ai (by decide +kernel) (Ai (by decide +kernel) (Ai (by decide +kernel) rfl)),Ai (by decide +kernel) (Ai (by decide +kernel) (Ai (by decide +kernel) rfl)),Ai (by decide +kernel) (Ai (by decide +kernel) (Ai (by decide +kernel) rfl)),fun h=>absurd h (by decide),fun h=>absurd h (by decide),fun h=>absurd h (by decide)⟩
def C3 (K:PySem.W.Frag)(ns:List Int):Sp:=fun vs H Q _=>match vs with
 |[.ref x,.int st,.int fi,.ref L,.int one,.int two]=>∃C dx rows vs,(H x=some (.ins C dx [])∧PySem.W.nsIn K mainGlobals "Early"=some (some (.ref C))∧H L=some (.lst vs)∧At (Dn H) vs rows∧D6 rows) ∧
  ∀T fs H',Sx x H H'→T≠x→H T=none→H' T=some (.lst vs)→H' x=some (.ins C dx fs)→Yb fs 1 st fi one two T→Q .non H'
 |_=>False
theorem Jt:Al ["self","step","first","table","early","many"] ["self","step","first","table","early","many"] (Af Dk):=⟨rfl,rfl,rfl,by decide +kernel,rfl,by decide +kernel,by decide +kernel⟩
theorem Jb (d:B0 K [c_Early] [] "__init__" "Early.__init__" Dk ["self","step","first","table","early","many"])(er:Bg K mg c_Capped c_Early c_Ledger c_NoTable c_Rested c_Rule)   (c_Rule___init__:Be P w K mg base [c_Rule] [c_Rule] "__init__" ["self","step","first","table"] 6 (Bp K ns)):Be P w K mg base [c_Early] [] "__init__" ["self","step","first","table","early","many"] 7 (C3 K ns):=by
 refine d.cal (k:=6) Jt (fun vs H Q E h=>?_) (fun f cdv A outer s H vs Q E hr h=>?_)
 ·match vs,h with
  |[.ref x,.int st,.int fi,.ref L,.int one,.int two],_=>rfl
 ·match vs,h with
  |[.ref x,.int st,.int fi,.ref L,.int one,.int two],hq0=>
   obtain ⟨C,dx,rows,vs,⟨h1,hC,hL,al,good⟩,k⟩:=hq0
   refine ⟨_,(@Ae _ _ _ _ _ (@Bs _ _ _ _ (Vj c_Rule___init__ (List.Mem.head _) er.r_Rule hr (by decide) (by rfl) er.b_Rule (@Aa _ _ _ _ _ (dv 0) (@Aa _ _ _ _ _ (dv 1) (@Aa _ _ _ _ _ (dv 2) (@Aa _ _ _ _ _ (dv 3) Ac (by rfl)) (by rfl)) (by rfl)) (by rfl))) (by rfl)) (@Ae _ _ _ _ _ (@Ec _ _ _ _ _ _ _ _ (dv 0) (dv 4) rfl) (@Ag _ _ _ (@Ec _ _ _ _ _ _ _ _ (dv 0) (dv 5) rfl)))),?_⟩
   have z:=Ao hC er.y_Early
   subst z
   refine ⟨_,dx,[],rows,vs,⟨h1,er.l_Early,er.na_Early_step,er.na_Early_first,er.na_Early_table,by decide,hL,al,good⟩,fun T H1 s1 nT n1 eT e1=>?_⟩
   have l1:=Mm (st:=st) (fi:=fi) (T:=T) (fs:=[])
   have l2:=Bf "early" (.int one) (Yr st fi T [])
   refine ⟨x,_,dx,_,rfl,e1,er.l_Early,er.na_Early_early,Nat.lt_of_le_of_lt l1 (by decide),⟨x,_,dx,_,rfl,Ad,er.l_Early,er.na_Early_many,Nat.lt_of_le_of_lt l2 (Nat.lt_of_le_of_lt (Nat.succ_le_succ l1) (by decide)),?_⟩⟩
   refine k T _ _ (s1.trans (Sx.trans Sx.upd Sx.upd)) nT n1 (by rw [Ak nT,Ak nT];exact eT) Ad ?_
   have f:=fd0 (st:=st) (fi:=fi) (T:=T) (fs:=[]) rfl
   exact ⟨Ai (by decide +kernel) (Ai (by decide +kernel) f.st),Ai (by decide +kernel) (Ai (by decide +kernel) f.fi),Ai (by decide +kernel) (Ai (by decide +kernel) f.tb),Ai (by decide +kernel) (Ai (by decide +kernel) f.sz),Ai (by decide +kernel) (Ai (by decide +kernel) f.bt),Ai (by decide +kernel) (Ai (by decide +kernel) f.tw),fun _=>⟨Ai (by decide +kernel) Ea,Ea⟩,fun h=>absurd h (by decide),fun h=>absurd h (by decide)⟩
def Cv (K:PySem.W.Frag)(ns:List Int):Sp:=fun vs H Q _=>match vs with
 |[.ref x,.int st,.int fi,.ref L,.int one,.int two]=>∃C dx rows vs,(H x=some (.ins C dx [])∧PySem.W.nsIn K mainGlobals "Rested"=some (some (.ref C))∧H L=some (.lst vs)∧At (Dn H) vs rows∧D6 rows) ∧
  ∀T fs H',Sx x H H'→T≠x→H T=none→H' T=some (.lst vs)→H' x=some (.ins C dx fs)→Yb fs 2 st fi one two T→Q .non H'
 |_=>False
theorem Ik:Al ["self","step","first","table","pause","times"] ["self","step","first","table","pause","times"] (Af C8):=⟨rfl,rfl,rfl,by decide +kernel,rfl,by decide +kernel,by decide +kernel⟩
theorem Io (d:B0 K [c_Rested] [] "__init__" "Rested.__init__" C8 ["self","step","first","table","pause","times"])(er:Bg K mg c_Capped c_Early c_Ledger c_NoTable c_Rested c_Rule)   (c_Rule___init__:Be P w K mg base [c_Rule] [c_Rule] "__init__" ["self","step","first","table"] 6 (Bp K ns)):Be P w K mg base [c_Rested] [] "__init__" ["self","step","first","table","pause","times"] 7 (Cv K ns):=by
 refine d.cal (k:=6) Ik (fun vs H Q E h=>?_) (fun f cdv A outer s H vs Q E hr h=>?_)
 ·match vs,h with
  |[.ref x,.int st,.int fi,.ref L,.int one,.int two],_=>rfl
 ·match vs,h with
  |[.ref x,.int st,.int fi,.ref L,.int one,.int two],hq0=>
   obtain ⟨C,dx,rows,vs,⟨h1,hC,hL,al,good⟩,k⟩:=hq0
   refine ⟨_,(@Ae _ _ _ _ _ (@Bs _ _ _ _ (Vj c_Rule___init__ (List.Mem.head _) er.r_Rule hr (by decide) (by rfl) er.b_Rule (@Aa _ _ _ _ _ (dv 0) (@Aa _ _ _ _ _ (dv 1) (@Aa _ _ _ _ _ (dv 2) (@Aa _ _ _ _ _ (dv 3) Ac (by rfl)) (by rfl)) (by rfl)) (by rfl))) (by rfl)) (@Ae _ _ _ _ _ (@Ec _ _ _ _ _ _ _ _ (dv 0) (dv 4) rfl) (@Ag _ _ _ (@Ec _ _ _ _ _ _ _ _ (dv 0) (dv 5) rfl)))),?_⟩
   have z:=Ao hC er.y_Rested
   subst z
   refine ⟨_,dx,[],rows,vs,⟨h1,er.l_Rested,er.na_Rested_step,er.na_Rested_first,er.na_Rested_table,by decide,hL,al,good⟩,fun T H1 s1 nT n1 eT e1=>?_⟩
   have l1:=Mm (st:=st) (fi:=fi) (T:=T) (fs:=[])
   have l2:=Bf "pause" (.int one) (Yr st fi T [])
   refine ⟨x,_,dx,_,rfl,e1,er.l_Rested,er.na_Rested_pause,Nat.lt_of_le_of_lt l1 (by decide),⟨x,_,dx,_,rfl,Ad,er.l_Rested,er.na_Rested_times,Nat.lt_of_le_of_lt l2 (Nat.lt_of_le_of_lt (Nat.succ_le_succ l1) (by decide)),?_⟩⟩
   refine k T _ _ (s1.trans (Sx.trans Sx.upd Sx.upd)) nT n1 (by rw [Ak nT,Ak nT];exact eT) Ad ?_
   have f:=fd0 (st:=st) (fi:=fi) (T:=T) (fs:=[]) rfl
   exact ⟨Ai (by decide +kernel) (Ai (by decide +kernel) f.st),Ai (by decide +kernel) (Ai (by decide +kernel) f.fi),Ai (by decide +kernel) (Ai (by decide +kernel) f.tb),Ai (by decide +kernel) (Ai (by decide +kernel) f.sz),Ai (by decide +kernel) (Ai (by decide +kernel) f.bt),Ai (by decide +kernel) (Ai (by decide +kernel) f.tw),fun h=>absurd h (by decide),fun _=>⟨Ai (by decide +kernel) Ea,Ea⟩,fun h=>absurd h (by decide)⟩
def Ct (K:PySem.W.Frag)(ns:List Int):Sp:=fun vs H Q _=>match vs with
 |[.ref x,.int st,.int fi,.ref L,.int one]=>∃C dx rows vs,(H x=some (.ins C dx [])∧PySem.W.nsIn K mainGlobals "Capped"=some (some (.ref C))∧H L=some (.lst vs)∧At (Dn H) vs rows∧D6 rows) ∧
  ∀T fs H',Sx x H H'→T≠x→H T=none→H' T=some (.lst vs)→H' x=some (.ins C dx fs)→(∀two,Yb fs 3 st fi one two T)→Q .non H'
 |_=>False
theorem Ih:Al ["self","step","first","table","cap"] ["self","step","first","table","cap"] (Af C6):=⟨rfl,rfl,rfl,by decide +kernel,rfl,by decide +kernel,by decide +kernel⟩
theorem Im (d:B0 K [c_Capped] [] "__init__" "Capped.__init__" C6 ["self","step","first","table","cap"])(er:Bg K mg c_Capped c_Early c_Ledger c_NoTable c_Rested c_Rule)   (c_Rule___init__:Be P w K mg base [c_Rule] [c_Rule] "__init__" ["self","step","first","table"] 6 (Bp K ns)):Be P w K mg base [c_Capped] [] "__init__" ["self","step","first","table","cap"] 7 (Ct K ns):=by
 refine d.cal (k:=6) Ih (fun vs H Q E h=>?_) (fun f cdv A outer s H vs Q E hr h=>?_)
 ·match vs,h with
  |[.ref x,.int st,.int fi,.ref L,.int one],_=>rfl
 ·match vs,h with
  |[.ref x,.int st,.int fi,.ref L,.int one],hq0=>
   obtain ⟨C,dx,rows,vs,⟨h1,hC,hL,al,good⟩,k⟩:=hq0
   refine ⟨_,(@Ae _ _ _ _ _ (@Bs _ _ _ _ (Vj c_Rule___init__ (List.Mem.head _) er.r_Rule hr (by decide) (by rfl) er.b_Rule (@Aa _ _ _ _ _ (dv 0) (@Aa _ _ _ _ _ (dv 1) (@Aa _ _ _ _ _ (dv 2) (@Aa _ _ _ _ _ (dv 3) Ac (by rfl)) (by rfl)) (by rfl)) (by rfl))) (by rfl)) (@Ag _ _ _ (@Ec _ _ _ _ _ _ _ _ (dv 0) (dv 4) rfl))),?_⟩
   have z:=Ao hC er.y_Capped
   subst z
   refine ⟨_,dx,[],rows,vs,⟨h1,er.l_Capped,er.na_Capped_step,er.na_Capped_first,er.na_Capped_table,by decide,hL,al,good⟩,fun T H1 s1 nT n1 eT e1=>?_⟩
   have l1:=Mm (st:=st) (fi:=fi) (T:=T) (fs:=[])
   refine ⟨x,_,dx,_,rfl,e1,er.l_Capped,er.na_Capped_cap,Nat.lt_of_le_of_lt l1 (by decide),?_⟩
   refine k T _ _ (s1.trans Sx.upd) nT n1 (by rw [Ak nT];exact eT) Ad fun two=>?_
   have f:=fd0 (st:=st) (fi:=fi) (T:=T) (fs:=[]) rfl
   exact ⟨Ai (by decide +kernel) f.st,Ai (by decide +kernel) f.fi,Ai (by decide +kernel) f.tb,Ai (by decide +kernel) f.sz,Ai (by decide +kernel) f.bt,Ai (by decide +kernel) f.tw,fun h=>absurd h (by decide),fun h=>absurd h (by decide),fun _=>Ea⟩
def Oe (so st one two p r:Int):Int:=if so=1∧p<two then one else if so=2∧one<r then st*two else st
structure Nb (st one two:Int):Prop where
 s0:0≤st
 s1:st≤1000000
 o0:0≤one
 o1:one≤1000001
 t0:0≤two
 t1:two≤1000001
theorem Nb.bst {st one two:Int}(h:Nb st one two):Bd 40 st:=Dy (b:=1000001) (by have:=h.s0;omega) (by have:=h.s1;omega) (A0 rfl)
theorem Nb.bon {st one two:Int}(h:Nb st one two):Bd 40 one:=Dy (b:=1000001) (by have:=h.o0;omega) h.o1 (A0 rfl)
theorem Nb.btw {st one two:Int}(h:Nb st one two):Bd 40 two:=Dy (b:=1000001) (by have:=h.t0;omega) h.t1 (A0 rfl)
theorem Qj {so st one two p r:Int}(h:Nb st one two):Bd 80 (Oe so st one two p r):=by
 unfold Oe
 split
 ·exact h.bon.mono (by decide)
 ·split
  ·exact h.bst.mul h.btw
  ·exact h.bst.mono (by decide)
def SzT (K:PySem.W.Frag)(T:List (Addr×Sp)):Prop:=∀so C,Kn K so C→∃sp,(C,sp)∈T∧∀fs st fi one two Tb,Yb fs so st fi one two Tb→Nb st one two→∀a dx H p r Q,H a=some (.ins C dx fs)→Q (.int (Oe so st one two p r)) H→sp [.ref a,.int p,.int r] H Q E0
theorem Ae1 {K:PySem.W.Frag}{ns:List Int}{c0 c1 c2 c3:Addr}(y0:PySem.W.nsIn K mainGlobals "Rule"=some (some (.ref c0)))(y1:PySem.W.nsIn K mainGlobals "Early"=some (some (.ref c1)))(y2:PySem.W.nsIn K mainGlobals "Rested"=some (some (.ref c2)))(y3:PySem.W.nsIn K mainGlobals "Capped"=some (some (.ref c3)))
  (l0:Iq K c0) (l1:Iq K c1) (l2:Iq K c2) (l3:Iq K c3) (n0:NoAttr K c0 "step") (n1:NoAttr K c1 "step") (n2:NoAttr K c2 "step") (n3:NoAttr K c3 "step") (e1:NoAttr K c1 "early") (m1:NoAttr K c1 "many") (p2:NoAttr K c2 "pause") (t2:NoAttr K c2 "times") :
  SzT K [(c0,Db K ns),(c1,Dt K ns),(c2,C7 K ns),(c3,Db K ns)]:=by
 rintro so C (⟨rfl,h⟩|⟨rfl,h⟩|⟨rfl,h⟩|⟨rfl,h⟩)
 ·have z:=Ao h y0
  subst z
  refine ⟨_,.head _,fun fs st fi one two Tb f b a dx H p r Q e q=>⟨_,dx,fs,st,⟨e,l0,n0,f.st⟩,?_⟩⟩
  have:Oe 0 st one two p r=st:=by
   unfold Oe
   rw [if_neg (fun c=>absurd c.1 (by decide)),if_neg (fun c=>absurd c.1 (by decide))]
  rw [this] at q
  exact q
 ·have z:=Ao h y1
  subst z
  refine ⟨_,.tail _ (.head _),fun fs st fi one two Tb f b a dx H p r Q e q=>⟨_,dx,fs,st,one,two,⟨e,l1,n1,e1,m1,f.st,(f.x1 rfl).1,(f.x1 rfl).2⟩,?_⟩⟩
  have:Oe 1 st one two p r=if p<two then one else st:=by
   unfold Oe
   by_cases c:p<two
   ·rw [if_pos ⟨rfl,c⟩,if_pos c]
   ·rw [if_neg (fun z=>c z.2),if_neg c,if_neg (fun c=>absurd c.1 (by decide))]
  rw [this] at q
  exact q
 ·have z:=Ao h y2
  subst z
  refine ⟨_,.tail _ (.tail _ (.head _)),fun fs st fi one two Tb f b a dx H p r Q e q=>⟨_,dx,fs,st,one,two,⟨e,l2,n2,p2,t2,f.st,(f.x2 rfl).1,(f.x2 rfl).2,b.bst,b.btw⟩,?_⟩⟩
  have:Oe 2 st one two p r=if one<r then st*two else st:=by
   unfold Oe
   rw [if_neg (fun c=>absurd c.1 (by decide))]
   by_cases c:one<r
   ·rw [if_pos ⟨rfl,c⟩,if_pos c]
   ·rw [if_neg (fun z=>c z.2),if_neg c]
  rw [this] at q
  exact q
 ·have z:=Ao h y3
  subst z
  refine ⟨_,.tail _ (.tail _ (.tail _ (.head _))),fun fs st fi one two Tb f b a dx H p r Q e q=>⟨_,dx,fs,st,⟨e,l3,n3,f.st⟩,?_⟩⟩
  have:Oe 3 st one two p r=st:=by
   unfold Oe
   rw [if_neg (fun c=>absurd c.1 (by decide)),if_neg (fun c=>absurd c.1 (by decide))]
  rw [this] at q
  exact q
theorem Ahu {rows:List Rw}(tb:Tb rows)(t b:Int):0≤(Ip rows t b).1∧(Ip rows t b).1≤(Ip rows t b).2∧0<(Ip rows t b).2∧(Ip rows t b).2≤9999:=by
 by_cases h:t<0
 ·obtain ⟨r,hr,e⟩:=Qe (b:=b) tb (show 0≤-t by omega) (0,1)
  have o:=tb.ok r hr
  have e':Ip rows t b=(r.2.2-r.2.1,r.2.2):=by
   rw [Ws h,M7 (show 0≤-t by omega),e]
  rw [e']
  have o1:=o.t0
  have o2:=o.tb
  have o3:=o.b0
  have o4:=o.b1
  exact ⟨by show 0≤r.2.2-r.2.1;omega,by show r.2.2-r.2.1≤r.2.2;omega,o3,o4⟩
 ·obtain ⟨r,hr,e⟩:=Qe (b:=b) tb (show 0≤t by omega) (0,1)
  have o:=tb.ok r hr
  rw [M7 (by omega),e]
  exact ⟨o.t0,o.tb,o.b0,o.b1⟩
def unT (z h:Int)(x:Q2):Int:=z*(h*x.2-2*x.1)
def unB (x:Q2):Int:=2*x.2
def unQ (z h:Int)(x:Q2):Q2:=(Ud (unT z h x) (unB x),Ru (unT z h x) (unB x))
structure ShQ (x:Q2):Prop where
 t0:0≤x.1
 tb:x.1≤x.2
 b0:0<x.2
 b1:x.2≤9999
theorem L6 {rows:List Rw}(tb:Tb rows)(t b:Int):ShQ (Ip rows t b):=by
 obtain ⟨h1,h2,h3,h4⟩:=Ahu tb t b
 exact ⟨h1,h2,h3,h4⟩
theorem ShQ.bT {x:Q2}{z h:Int}(s:ShQ x)(hz:Bd 80 z)(h0:0≤h)(h2:h≤2):Bd 20 h∧Bd 20 x.1∧Bd 20 x.2∧Bd 40 (h*x.2-2*x.1)∧Bd 120 (unT z h x)∧Bd 40 (unB x):=by
 have s0:=s.t0
 have s1:=s.tb
 have s2:=s.b0
 have s3:=s.b1
 have b1:Bd 20 x.1:=Dy (b:=9999) (by omega) (by omega) (A0 rfl)
 have b2:Bd 20 x.2:=Dy (b:=9999) (by omega) (by omega) (A0 rfl)
 have b3:Bd 20 h:=Dy (b:=2) (by omega) (by omega) (A0 rfl)
 have hm:h*x.2≤2*x.2:=Int.mul_le_mul_of_nonneg_right h2 (by omega)
 have hn:=Int.mul_nonneg h0 (show 0≤x.2 by omega)
 have b4:Bd 40 (h*x.2-2*x.1):=Dy (b:=20000) (by omega) (by omega) (A0 rfl)
 exact ⟨b3,b1,b2,b4,hz.mul b4,Dy (b:=20000) (by unfold unB;omega) (by unfold unB;omega) (A0 rfl)⟩
def Ga (K:PySem.W.Frag)(ns:List Int):Sp:=fun vs H Q _=>match vs with
 |[.int z,.ref s,.int h]=>∃x:Q2,(H s=some (.tup [.int x.1,.int x.2])∧ShQ x∧Bd 80 z∧0≤h∧h≤2)∧∀q H',Ah H H'→H' q=some (.tup [.int (unQ z h x).1,.int (unQ z h x).2])→Q (.ref q) H'
 |_=>False
theorem Qu:Al ["size","share","halves"] ["size","share","halves"] (Af Gq):=⟨rfl,rfl,rfl,by decide +kernel,rfl,by decide +kernel,by decide +kernel⟩
theorem P9 (d:B8 K mg "uncut_bit" Gq ["size","share","halves"])(er:Bg K mg c_Capped c_Early c_Ledger c_NoTable c_Rested c_Rule)   (c_fraction:Bm P w K mg base "fraction" ["top","bottom"] 2 (Dw K ns)):Bm P w K mg base "uncut_bit" ["size","share","halves"] 3 (Ga K ns):=by
 refine d.cal (k:=2) Qu (fun vs H Q E h=>?_) (fun f cdv A outer s H vs Q E hr h=>?_)
 ·match vs,h with
  |[.int z,.ref s,.int h],_=>rfl
 ·match vs,h with
  |[.int z,.ref s,.int h],hq0=>
   obtain ⟨x,⟨hs,sh,bz,h0,h2⟩,k⟩:=hq0
   refine ⟨_,(@Ag _ _ _ (@Aq _ _ _ _ (@An _ _ _ _ _ _ _ _ _ _ _ c_fraction hr (by decide) (by rfl) (@Aa _ _ _ _ _ (@Aj _ _ _ _ _ _ _ _ Cw (dv 0) (@Aj _ _ _ _ _ _ _ _ Sj (@Aj _ _ _ _ _ _ _ _ Cw (dv 2) (@Ap _ _ _ _ _ _ _ Av (dv 1) Ab (fun _ _=>rfl))) (@Aj _ _ _ _ _ _ _ _ Cw Ab (@Ap _ _ _ _ _ _ _ Av (dv 1) Ab (fun _ _=>rfl))))) (@Aa _ _ _ _ _ (@Aj _ _ _ _ _ _ _ _ Cw Ab (@Ap _ _ _ _ _ _ _ Av (dv 1) Ab (fun _ _=>rfl))) Ac (by rfl)) (by rfl)) (by decide) (by rfl) (by rfl)))),?_⟩
   obtain ⟨b1,b2,b3,b4,b5,b6⟩:=sh.bT bz h0 h2
   have p:=sh.b0
   exact ⟨_,hs,Xw b1 b3 (by decide) (by decide),_,hs,Xw (A0 (n:=20) rfl) b2 (by decide) (by decide),Xw bz b4 (by decide) (by decide),_,hs,Xw (A0 (n:=20) rfl) b3 (by decide) (by decide),⟨by show 2*x.2≠0;omega,b6.mono (by decide)⟩,fun q H' s e=>k q H' s e.at'⟩
def Rb (x:Q2)(c:Int):Q2:=if c*x.2<x.1 then (c,1) else if x.1 < -c*x.2 then (-c,1) else x
def Zc (K:PySem.W.Frag)(ns:List Int):Sp:=fun vs H Q _=>match vs with
 |[.ref p,.int c]=>∃x:Q2,(H p=some (.tup [.int x.1,.int x.2])∧Bd 200 x.1∧Bd 200 x.2∧Bd 200 c)∧∀q H',Ah H H'→H' q=some (.tup [.int (Rb x c).1,.int (Rb x c).2])→Q (.ref q) H'
 |_=>False
theorem Ah1:Al ["one","cap"] ["one","cap"] (Af Abd):=⟨rfl,rfl,rfl,by decide +kernel,rfl,by decide +kernel,by decide +kernel⟩
theorem Ahy (d:B8 K mg "cut" Abd ["one","cap"])(er:Bg K mg c_Capped c_Early c_Ledger c_NoTable c_Rested c_Rule)   (c_under:Bm P w K mg base "under" ["one","other"] 1 (Fo K ns)):Bm P w K mg base "cut" ["one","cap"] 2 (Zc K ns):=by
 refine d.cal (k:=1) Ah1 (fun vs H Q E h=>?_) (fun f cdv A outer s H vs Q E hr h=>?_)
 ·match vs,h with
  |[.ref p,.int c],_=>rfl
 ·match vs,h with
  | [.ref p,.int c],hq0=>
   obtain ⟨x,⟨hp,b1,b2,b3⟩,k⟩:=hq0
   refine ⟨_,(@Ae _ _ _ _ _ (@D8 _ _ _ _ _ _ _ _ (@Ft _ _ _ (@An _ _ _ _ _ _ _ _ _ _ _ c_under hr (by decide) (by rfl) (@Aa _ _ _ _ _ (@Ca _ _ _ _ _ (@Aa _ _ _ _ _ (dv 1) (@Aa _ _ _ _ _ Ab Ac (by rfl)) (by rfl))) (@Aa _ _ _ _ _ (dv 0) Ac (by rfl)) (by rfl)) (by decide) (by rfl) (by rfl)) (by intro _;rfl)) (@Ag _ _ _ (@Aq _ _ _ _ (@Ca _ _ _ _ _ (@Aa _ _ _ _ _ (dv 1) (@Aa _ _ _ _ _ Ab Ac (by rfl)) (by rfl))))) A8) (@Ag _ _ _ (@Aq _ _ _ _ (@Aec _ _ _ _ _ _ _ _ (@Ft _ _ _ (@An _ _ _ _ _ _ _ _ _ _ _ c_under hr (by decide) (by rfl) (@Aa _ _ _ _ _ (dv 0) (@Aa _ _ _ _ _ (@Ca _ _ _ _ _ (@Aa _ _ _ _ _ (@Op _ _ _ _ _ _ O5 (dv 1)) (@Aa _ _ _ _ _ Ab Ac (by rfl)) (by rfl))) Ac (by rfl)) (by rfl)) (by decide) (by rfl) (by rfl)) (by intro _;rfl)) (@Ca _ _ _ _ _ (@Aa _ _ _ _ _ (@Op _ _ _ _ _ _ O5 (dv 1)) (@Aa _ _ _ _ _ Ab Ac (by rfl)) (by rfl))) (dv 0))))),?_⟩
   refine fun T H1 s1 e1=>⟨c,1,x.1,x.2,⟨e1,s1 _ _ hp⟩,⟨b3.mono (by decide),A0 rfl,b1.mono (by decide),b2.mono (by decide)⟩,⟨fun h=>?_,fun h=>?_⟩⟩
   ·have h:c*x.2<x.1*1:=of_decide_eq_true h
    refine fun T2 H2 s2 e2=>k T2 H2 (s1.trans s2) ?_
    rw [show Rb x c=(c,1) from if_pos (by omega)]
    exact e2
   ·have h:¬c*x.2<x.1*1:=of_decide_eq_false h
    refine fun T2 H2 s2 e2=>⟨x.1,x.2,-c,1,⟨(s1.trans s2) _ _ hp,e2⟩,⟨b1.mono (by decide),b2.mono (by decide),b3.neg.mono (by decide),A0 rfl⟩,⟨fun h'=>?_,fun h'=>?_⟩⟩
    ·have h':x.1*1 < -c*x.2:=of_decide_eq_true h'
     refine fun T3 H3 s3 e3=>k T3 H3 (s1.trans (s2.trans s3)) ?_
     rw [show Rb x c=(-c,1) from (if_neg (by omega)).trans (if_pos (by omega))]
     exact e3
    ·have h':¬x.1*1 < -c*x.2:=of_decide_eq_false h'
     refine k p H2 (s1.trans s2) ?_
     rw [show Rb x c=x from (if_neg (by omega)).trans (if_neg (by omega))]
     exact (s1.trans s2) _ _ hp
def X2 (so st one two p r h:Int)(x:Q2):Q2:=if so=3 then Rb (unQ (Oe so st one two p r) h x) one else unQ (Oe so st one two p r) h x
def K8 (K:PySem.W.Frag)(H:Hp)(a:Addr)(so st fi one two:Int)(rows:List Rw):Prop:=∃C dx fs T,H a=some (.ins C dx fs)∧Kn K so C∧Yb fs so st fi one two T∧TbA K H T rows
theorem K8.up {K:PySem.W.Frag}{H H':Hp}{a:Addr}{so st fi one two:Int}{rows:List Rw}(s:Ah H H'):K8 K H a so st fi one two rows→K8 K H' a so st fi one two rows:=fun ⟨C,dx,fs,T,e,k,f,t⟩=>⟨C,dx,fs,T,s _ _ e,k,f,t.up s⟩
def Dx (K:PySem.W.Frag)(ns:List Int):Sp:=fun vs H Q _=>match vs with
 |[.ref a,.ref d,.int h,.int p,.int r]=>∃(so st fi one two:Int) (rows:List Rw) (x:Q2),(K8 K H a so st fi one two rows∧so≠3∧Tb rows∧Nb st one two∧Fq 1300 H d x.1 x.2∧0≤h∧h≤2)∧∀q H',Ah H H'→H' q=some (.tup [.int (X2 so st one two p r h (Ip rows x.1 x.2)).1,.int (X2 so st one two p r h (Ip rows x.1 x.2)).2])→Q (.ref q) H'
 |_=>False
theorem Tt:Al ["self","difference","halves","played","rest"] ["self","difference","halves","played","rest"] (Af Ig):=⟨rfl,rfl,rfl,by decide +kernel,rfl,by decide +kernel,by decide +kernel⟩
theorem Tk (d:B0 K [c_Rule,c_Early,c_Rested] [] "bit" "Rule.bit" Ig ["self","difference","halves","played","rest"])(er:Bg K mg c_Capped c_Early c_Ledger c_NoTable c_Rested c_Rule)   (c_uncut_bit:Bm P w K mg base "uncut_bit" ["size","share","halves"] 3 (Ga K ns))(c_share_by:Bm P w K mg base "share_by" ["table","difference"] 6 (Gp K ns))(c_Rule_size:Be P w K mg base [c_Rule,c_Capped] [] "size" ["self","played","rest"] 1 (Db K ns))(c_Rested_size:Be P w K mg base [c_Rested] [] "size" ["self","played","rest"] 1 (C7 K ns))(c_Early_size:Be P w K mg base [c_Early] [] "size" ["self","played","rest"] 1 (Dt K ns)):Be P w K mg base [c_Rule,c_Early,c_Rested] [] "bit" ["self","difference","halves","played","rest"] 7 (Dx K ns):=by
 refine d.cal (k:=6) Tt (fun vs H Q E h=>?_) (fun f cdv A outer s H vs Q E hr h=>?_)
 ·match vs,h with
  |[.ref a,.ref d,.int h,.int p,.int r],_=>rfl
 ·match vs,h with
  | [.ref a,.ref d,.int h,.int p,.int r],hq0=>
   obtain ⟨so,st,fi,one,two,rows,x,⟨⟨C,dx,fs,T,e,kn,f,ht⟩,n3,tb,b,fx,h0,h2⟩,k⟩:=hq0
   refine ⟨_,(@Ag _ _ _ (@Aq _ _ _ _ (@An _ _ _ _ _ _ _ _ _ _ _ c_uncut_bit hr (by decide) (by rfl) (@Aa _ _ _ _ _ (Dr (dv 0) (Az c_Rule_size (List.Mem.head _) er.l_Rule (by decide) (Az c_Early_size (List.Mem.head _) er.l_Early (by decide) (Az c_Rested_size (List.Mem.head _) er.l_Rested (by decide) (Az c_Rule_size (List.Mem.tail _ (List.Mem.head _)) er.l_Capped (by decide) B3)))) hr (@Aa _ _ _ _ _ (dv 3) (@Aa _ _ _ _ _ (dv 4) Ac (by rfl)) (by rfl))) (@Aa _ _ _ _ _ (@An _ _ _ _ _ _ _ _ _ _ _ c_share_by hr (by decide) (by rfl) (@Aa _ _ _ _ _ (@Ax _ _ _ _ _ (dv 0) (by rfl)) (@Aa _ _ _ _ _ (dv 1) Ac (by rfl)) (by rfl)) (by decide) (by rfl) (by rfl)) (@Aa _ _ _ _ _ (dv 2) Ac (by rfl)) (by rfl)) (by rfl)) (by decide) (by rfl) (by rfl)))),?_⟩
   have hz:=Ae1 (ns:=ns) er.y_Rule er.y_Early er.y_Rested er.y_Capped er.l_Rule er.l_Early er.l_Rested er.l_Capped er.na_Rule_step er.na_Early_step er.na_Rested_step er.na_Capped_step er.na_Early_early er.na_Early_many er.na_Rested_pause er.na_Rested_times
   obtain ⟨sp,hm,hs⟩:=hz so C kn
   have cn:Iq K C∧NoAttr K C "table":=by
    rcases kn with ⟨_,y⟩|⟨_,y⟩|⟨_,y⟩|⟨_,y⟩
    ·exact Ao er.y_Rule y▸⟨er.l_Rule,er.na_Rule_table⟩
    ·exact Ao er.y_Early y▸⟨er.l_Early,er.na_Early_table⟩
    ·exact Ao er.y_Rested y▸⟨er.l_Rested,er.na_Rested_table⟩
    ·exact Ao er.y_Capped y▸⟨er.l_Capped,er.na_Capped_table⟩
   refine ⟨a,C,dx,fs,sp,rfl,e,hm,f.sz,hs fs st fi one two T f b a dx H p r _ e ?_⟩
   refine ⟨a,C,dx,fs,_,rfl,e,cn.1,cn.2,f.tb,rows,x,⟨ht,tb,fx,fun _=>by decide⟩,fun q H1 s1 e1=>?_⟩
   refine ⟨Ip rows x.1 x.2,⟨e1,L6 tb _ _,Qj b,h0,h2⟩,fun q2 H2 s2 e2=>k q2 H2 (s1.trans s2) ?_⟩
   rw [show X2 so st one two p r h (Ip rows x.1 x.2)=unQ (Oe so st one two p r) h (Ip rows x.1 x.2) from if_neg n3]
   exact e2
def E9 (K:PySem.W.Frag)(ns:List Int):Sp:=fun vs H Q _=>match vs with
 |[.ref a,.ref d,.int h,.int p,.int r]=>∃(st fi one two:Int) (rows:List Rw) (x:Q2),(K8 K H a 3 st fi one two rows∧Tb rows∧Nb st one two∧Fq 1300 H d x.1 x.2∧0≤h∧h≤2)∧∀q H',Ah H H'→H' q=some (.tup [.int (X2 3 st one two p r h (Ip rows x.1 x.2)).1,.int (X2 3 st one two p r h (Ip rows x.1 x.2)).2])→Q (.ref q) H'
 |_=>False
theorem N6:Al ["self","difference","halves","played","rest"] ["self","difference","halves","played","rest"] (Af Fw):=⟨rfl,rfl,rfl,by decide +kernel,rfl,by decide +kernel,by decide +kernel⟩
theorem Nz (d:B0 K [c_Capped] [] "bit" "Capped.bit" Fw ["self","difference","halves","played","rest"])(er:Bg K mg c_Capped c_Early c_Ledger c_NoTable c_Rested c_Rule)   (c_cut:Bm P w K mg base "cut" ["one","cap"] 2 (Zc K ns))(c_uncut_bit:Bm P w K mg base "uncut_bit" ["size","share","halves"] 3 (Ga K ns))(c_share_by:Bm P w K mg base "share_by" ["table","difference"] 6 (Gp K ns))(c_Rule_size:Be P w K mg base [c_Rule,c_Capped] [] "size" ["self","played","rest"] 1 (Db K ns))(c_Rested_size:Be P w K mg base [c_Rested] [] "size" ["self","played","rest"] 1 (C7 K ns))(c_Early_size:Be P w K mg base [c_Early] [] "size" ["self","played","rest"] 1 (Dt K ns)):Be P w K mg base [c_Capped] [] "bit" ["self","difference","halves","played","rest"] 7 (E9 K ns):=by
 refine d.cal (k:=6) N6 (fun vs H Q E h=>?_) (fun f cdv A outer s H vs Q E hr h=>?_)
 ·match vs,h with
  |[.ref a,.ref d,.int h,.int p,.int r],_=>rfl
 ·match vs,h with
  | [.ref a,.ref d,.int h,.int p,.int r],hq0=>
   obtain ⟨st,fi,one,two,rows,x,⟨⟨C,dx,fs,T,e,kn,f,ht⟩,tb,b,fx,h0,h2⟩,k⟩:=hq0
   refine ⟨_,(@Ag _ _ _ (@Aq _ _ _ _ (@An _ _ _ _ _ _ _ _ _ _ _ c_cut hr (by decide) (by rfl) (@Aa _ _ _ _ _ (@An _ _ _ _ _ _ _ _ _ _ _ c_uncut_bit hr (by decide) (by rfl) (@Aa _ _ _ _ _ (Dr (dv 0) (Az c_Rule_size (List.Mem.head _) er.l_Rule (by decide) (Az c_Early_size (List.Mem.head _) er.l_Early (by decide) (Az c_Rested_size (List.Mem.head _) er.l_Rested (by decide) (Az c_Rule_size (List.Mem.tail _ (List.Mem.head _)) er.l_Capped (by decide) B3)))) hr (@Aa _ _ _ _ _ (dv 3) (@Aa _ _ _ _ _ (dv 4) Ac (by rfl)) (by rfl))) (@Aa _ _ _ _ _ (@An _ _ _ _ _ _ _ _ _ _ _ c_share_by hr (by decide) (by rfl) (@Aa _ _ _ _ _ (@Ax _ _ _ _ _ (dv 0) (by rfl)) (@Aa _ _ _ _ _ (dv 1) Ac (by rfl)) (by rfl)) (by decide) (by rfl) (by rfl)) (@Aa _ _ _ _ _ (dv 2) Ac (by rfl)) (by rfl)) (by rfl)) (by decide) (by rfl) (by rfl)) (@Aa _ _ _ _ _ (@Ax _ _ _ _ _ (dv 0) (by rfl)) Ac (by rfl)) (by rfl)) (by decide) (by rfl) (by rfl)))),?_⟩
   have hz:=Ae1 (ns:=ns) er.y_Rule er.y_Early er.y_Rested er.y_Capped er.l_Rule er.l_Early er.l_Rested er.l_Capped er.na_Rule_step er.na_Early_step er.na_Rested_step er.na_Capped_step er.na_Early_early er.na_Early_many er.na_Rested_pause er.na_Rested_times
   obtain ⟨sp,hm,hs⟩:=hz 3 C kn
   have y:PySem.W.nsIn K mainGlobals "Capped"=some (some (.ref C)):=by
    rcases kn with ⟨z,_⟩|⟨z,_⟩|⟨z,_⟩|⟨_,y⟩
    ·exact absurd z (by decide)
    ·exact absurd z (by decide)
    ·exact absurd z (by decide)
    ·exact y
   have z:=Ao y er.y_Capped
   subst z
   refine ⟨a,_,dx,fs,sp,rfl,e,hm,f.sz,hs fs st fi one two T f b a dx H p r _ e ?_⟩
   refine ⟨a,_,dx,fs,_,rfl,e,er.l_Capped,er.na_Capped_table,f.tb,rows,x,⟨ht,tb,fx,fun _=>by decide⟩,fun q H1 s1 e1=>?_⟩
   have sd:=L6 tb x.1 x.2
   obtain ⟨_,_,_,_,b5,b6⟩:=sd.bT (Qj (so:=3) (p:=p) (r:=r) b) h0 h2
   refine ⟨Ip rows x.1 x.2,⟨e1,sd,Qj b,h0,h2⟩,fun q2 H2 s2 e2=>?_⟩
   have s12:=s1.trans s2
   refine ⟨a,_,dx,fs,_,rfl,s12 _ _ e,er.l_Capped,er.na_Capped_cap,f.x3 rfl,?_⟩
   refine ⟨unQ (Oe 3 st one two p r) h (Ip rows x.1 x.2),⟨e2,(Mp b5).mono (by decide),(Mn b6).mono (by decide),b.bon.mono (by decide)⟩,fun q3 H3 s3 e3=>k q3 H3 (s12.trans s3) ?_⟩
   rw [show X2 3 st one two p r h (Ip rows x.1 x.2)=Rb (unQ (Oe 3 st one two p r) h (Ip rows x.1 x.2)) one from if_pos rfl]
   exact e3
structure TbI (i:Nat)(rows:List (Int×Int×Int)):Prop where
 hd:rows[0]? =some (0,1,2)
 ok:∀r∈rows,Cz (some r)=true∧r.2.2≤2*r.2.1
 lim:∀r∈rows,r.1≤100000*(i:Int)
 len:rows.length=i+1
 ch:chn rows=true
theorem Aee {rows:List (Int×Int×Int)}(h:D6 rows):Tb rows:=by
 obtain ⟨⟨l1,l2⟩,ok,hd,_⟩:=h
 refine ⟨?_,fun r hr=>?_,l2⟩
 ·cases rows with
  |nil=>cases hd
  |cons r rs=>
   cases hd
   exact ⟨_,_,rfl,rfl⟩
 ·obtain ⟨⟨a1,a2⟩,b1,b2,b3,b4,b5⟩:=Vn (ok r hr)
  exact ⟨a1,by omega,b3,b4,by omega,b2,b5⟩
theorem at4 {x y z w:Int}(c:Int){m:Int}(hx:0≤x∧x≤m)(hy:0≤y∧y≤m)(hz:0≤z∧z≤m)(hw:0≤w∧w≤m):∃v,Nv [V.int x,V.int y,V.int z,V.int w] (c % 4)=some (.int v)∧0≤v∧v≤m:=by
 have:c % 4=0∨c % 4=1∨c % 4=2∨c % 4=3:=by omega
 rcases this with e|e|e|e<;>rw [e]
 ·exact ⟨x,rfl,hx.1,hx.2⟩
 ·exact ⟨y,rfl,hy.1,hy.2⟩
 ·exact ⟨z,rfl,hz.1,hz.2⟩
 ·exact ⟨w,rfl,hw.1,hw.2⟩
def Kx (K:PySem.W.Frag)(ns:List Int):Sp:=fun vs H Q _=>match vs with
 |[.int c]=>∀n H',0≤n→n≤1000000→Ah H H'→Q (.int n) H'
 |_=>False
theorem Sy:Al ["_law_cell_here"] ["_law_cell_here"] (Af Ii):=⟨rfl,rfl,rfl,by decide +kernel,rfl,by decide +kernel,by decide +kernel⟩
theorem Sa (d:B8 K mg "_law_number" Ii ["_law_cell_here"])(er:Bg K mg c_Capped c_Early c_Ledger c_NoTable c_Rested c_Rule)   :Bm P w K mg base "_law_number" ["_law_cell_here"] 1 (Kx K ns):=by
 refine d.cal (k:=0) Sy (fun vs H Q E h=>?_) (fun f cdv A outer s H vs Q E hr h=>?_)
 ·match vs,h with
  |[.int c],_=>rfl
 ·match vs,h with
  |[.int c],hq0=>
   have q:=hq0
   refine ⟨_,(@Ag _ _ _ (@Aq _ _ _ _ (@Ap _ _ _ _ _ _ _ Dd (@Iw _ _ _ _ (@Aa _ _ _ _ _ Ab (@Aa _ _ _ _ _ Ab (@Aa _ _ _ _ _ (@Aj _ _ _ _ _ _ _ _ Bn (@Aj _ _ _ _ _ _ _ _ Ew (dv 0) Ab) Ab) (@Aa _ _ _ _ _ (@Aj _ _ _ _ _ _ _ _ Bn (@Aj _ _ _ _ _ _ _ _ Ew (dv 0) Ab) (@Aj _ _ _ _ _ _ _ _ Cg (@Aj _ _ _ _ _ _ _ _ Xe Ab Ab) Ab)) Ac (by rfl)) (by rfl)) (by rfl)) (by rfl))) (@Aj _ _ _ _ _ _ _ _ Bn (dv 0) Ab) (fun _ _=>rfl)))),?_⟩
   have n6:(0:Int)<10 ^ Int.toNat 6+1:=by decide
   have a0:=Int.emod_nonneg (c / 4) (show (61:Int)≠0 by decide)
   have a1:=Int.emod_lt_of_pos (c / 4) (show (0:Int)<61 by decide)
   have b0:=Int.emod_nonneg (c / 4) (show (10:Int) ^ Int.toNat 6+1≠0 by decide)
   have b1:c / 4 % (10 ^ Int.toNat 6+1)<1000001:=Int.emod_lt_of_pos (c / 4) n6
   refine ⟨⟨by decide,A0 rfl⟩,(by show (0:Int)<61;decide),⟨by decide,A0 rfl⟩,⟨by decide,by decide,by decide⟩,n6,fun P H1 s1 e1=>⟨(by show (0:Int)<4;decide),?_⟩⟩
   obtain ⟨v,hv,v0,v1⟩:=at4 (x:=0) (y:=1) (z:=c / 4 % 61) (w:=c / 4 % (10 ^ Int.toNat 6+1)) c (m:=1000000) ⟨by decide,by decide⟩ ⟨by decide,by decide⟩ ⟨a0,by omega⟩ ⟨b0,by omega⟩
   exact ⟨_,.int v,Ay.of e1,hv,q v H1 v0 v1 s1⟩
theorem Aka {s p q:Int}(h0:0≤s)(h1:s≤1000000)(h:Nq (some (p,q))=true):Cz (some (s,p,q))=true:=by
 show (decide (0≤s∧s≤1000000)&&Nq (some (p,q)))=true
 rw [h,decide_eq_true ⟨h0,h1⟩]
 rfl
theorem Akn {x y:Int}(hx:1≤x∧x≤90)(hy:100≤y∧y≤999):∀j:Nat,1≤j→j≤4→D6 ((([(0,1,2),(x,4,7),(y,8,9),(1000000,1,1)]:List (Int×Int×Int))).take j):=by
 have r0:Cz (some (0,1,2))=true:=by decide
 have r1:Cz (some (x,4,7))=true:=Aka (by omega) (by omega) (by decide)
 have r2:Cz (some (y,8,9))=true:=Aka (by omega) (by omega) (by decide)
 have r3:Cz (some (1000000,1,1))=true:=by decide
 have all:∀r∈([(0,1,2),(x,4,7),(y,8,9),(1000000,1,1)]:List (Int×Int×Int)),Cz (some r)=true:=fun r hr=>by
  rcases List.mem_cons.mp hr with rfl|hr
  ·exact r0
  rcases List.mem_cons.mp hr with rfl|hr
  ·exact r1
  rcases List.mem_cons.mp hr with rfl|hr
  ·exact r2
  ·rw [List.mem_singleton.mp hr]
   exact r3
 have g1:Q5 (0,1,2) (x,4,7)=true:=by
  show (decide (0<x)&&decide (¬(4:Int)*2<1*7))=true
  rw [decide_eq_true (show 0<x by omega)]
  rfl
 have g2:Q5 (x,4,7) (y,8,9)=true:=by
  show (decide (x<y)&&decide (¬(8:Int)*7<4*9))=true
  rw [decide_eq_true (show x<y by omega)]
  rfl
 have g3:Q5 (y,8,9) (1000000,1,1)=true:=by
  show (decide (y<1000000)&&decide (¬(1:Int)*9<8*1))=true
  rw [decide_eq_true (show y<1000000 by omega)]
  rfl
 intro j h1 h4
 have:j=1∨j=2∨j=3∨j=4:=by omega
 rcases this with rfl|rfl|rfl|rfl
 ·exact ⟨by (show 1≤1∧1≤10;decide),fun r hr=>all r (List.mem_of_mem_take hr),rfl,rfl⟩
 ·exact ⟨by (show 1≤2∧2≤10;decide),fun r hr=>all r (List.mem_of_mem_take hr),rfl,by show (Q5 _ _&&true)=true;rw [g1];rfl⟩
 ·exact ⟨by (show 1≤3∧3≤10;decide),fun r hr=>all r (List.mem_of_mem_take hr),rfl,by show (Q5 _ _&&(Q5 _ _&&true))=true;rw [g1,g2];rfl⟩
 ·exact ⟨by (show 1≤4∧4≤10;decide),fun r hr=>all r (List.mem_of_mem_take hr),rfl,by show (Q5 _ _&&(Q5 _ _&&(Q5 _ _&&true)))=true;rw [g1,g2,g3];rfl⟩
def Oq (K:PySem.W.Frag)(ns:List Int):Sp:=fun vs H Q _=>match vs with
 |[.ref a]=>(Ay K H a (ns.map V.int)∧Rm ns)∧∀D rows H',Ah H H'→TbL H' D rows→D6 rows→Q (.ref D) H'
 |_=>False
theorem O4:Al ["_law_script","_law_some"] ["_law_script"] (Af M6):=⟨rfl,rfl,rfl,by decide +kernel,rfl,by decide +kernel,by decide +kernel⟩
theorem Xj (d:B8 K mg "_law_rows" M6 ["_law_script"])(er:Bg K mg c_Capped c_Early c_Ledger c_NoTable c_Rested c_Rule)   (c_l_cell:Bm P w K mg base "_law_cell" ["_law_script","_law_k"] 1 (Fk K ns)):Bm P w K mg base "_law_rows" ["_law_script"] 2 (Oq K ns):=by
 refine d.cal (k:=1) O4 (fun vs H Q E h=>?_) (fun f cdv A outer s H vs Q E hr h=>?_)
 ·match vs,h with
  |[.ref a],_=>rfl
 ·match vs,h with
  | [.ref a],hq0=>
   obtain ⟨⟨hS,hb⟩,q⟩:=hq0
   refine ⟨_,(@Ae _ _ _ _ _ (@Au _ _ (1) _ _ _ _ O4.nd rfl (by trivial) (@Ah4 _ _ _ _ (@Qg _ _ _ _ _ _ _ (@Ca _ _ _ _ _ (@Dc _ _ _ _ _ _ _ Ab (@Aa _ _ _ _ _ (@Ca _ _ _ _ _ (@Dc _ _ _ _ _ _ _ Ab (@Dc _ _ _ _ _ _ _ Ab Ac))) Ac (by rfl)))) (@Qg _ _ _ _ _ _ _ (@Ca _ _ _ _ _ (@Aa _ _ _ _ _ (@Aj _ _ _ _ _ _ _ _ Cg Ab (@Aj _ _ _ _ _ _ _ _ Bn (@An _ _ _ _ _ _ _ _ _ _ _ c_l_cell hr (by decide) (by rfl) (@Aa _ _ _ _ _ (dv 0) (@Dc _ _ _ _ _ _ _ Ab Ac) (by rfl)) (by decide) (by rfl) (by rfl)) Ab)) (@Aa _ _ _ _ _ (@Ca _ _ _ _ _ (@Dc _ _ _ _ _ _ _ Ab (@Dc _ _ _ _ _ _ _ Ab Ac))) Ac (by rfl)) (by rfl))) (@Qg _ _ _ _ _ _ _ (@Ca _ _ _ _ _ (@Aa _ _ _ _ _ (@Aj _ _ _ _ _ _ _ _ Cg Ab (@Aj _ _ _ _ _ _ _ _ Bn (@An _ _ _ _ _ _ _ _ _ _ _ c_l_cell hr (by decide) (by rfl) (@Aa _ _ _ _ _ (dv 0) (@Dc _ _ _ _ _ _ _ Ab Ac) (by rfl)) (by decide) (by rfl) (by rfl)) Ab)) (@Aa _ _ _ _ _ (@Ca _ _ _ _ _ (@Dc _ _ _ _ _ _ _ Ab (@Dc _ _ _ _ _ _ _ Ab Ac))) Ac (by rfl)) (by rfl))) Agd)))) (by rfl) (by trivial)) (@Ag _ _ _ (@Aq _ _ _ _ (@C2 _ _ _ _ _ _ _ _ _ _ Us (@Aj _ _ _ _ _ _ _ _ Qf (dv 1) (@Iw _ _ _ _ (@Aa _ _ _ _ _ (@Ca _ _ _ _ _ (@Aa _ _ _ _ _ (@Aj _ _ _ _ _ _ _ _ Xe Ab Ab) (@Aa _ _ _ _ _ (@Ca _ _ _ _ _ (@Aa _ _ _ _ _ Ab (@Aa _ _ _ _ _ Ab Ac (by rfl)) (by rfl))) Ac (by rfl)) (by rfl))) Ac (by rfl)))) Jg (Cj (Aj Cg Ab (Aj Bn (An c_l_cell hr (by decide) (by rfl) (Aa (dv 0) (Aa Ab Ac))) Ab))))))),?_⟩
   refine fun T1 H1 s1 e1=>fun T2 H2 s2 e2=>?_
   have s02:=s1.trans s2
   refine ⟨s02.seq hS,⟨by decide,by decide,hb⟩,fun c1=>⟨(by show (0:Int)<90;decide),fun T3 H3 s3 e3=>fun T4 H4 s4 e4=>?_⟩⟩
   have s04:=s02.trans (s3.trans s4)
   refine ⟨s04.seq hS,⟨by decide,by decide,hb⟩,fun c2=>⟨(by show (0:Int)<900;decide),fun T5 H5 s5 e5=>fun T6 H6 s6 e6=>fun P H7 s7 e7=>?_⟩⟩
   refine ⟨⟨by decide,by decide,by decide⟩,fun T7 H8 s8 e8=>fun T8 H9 s9 e9=>fun P2 H10 s10 e10=>⟨_,_,(s8.trans (s9.trans s10)) _ _ e7,e10,by (show 3+1≤1000;decide),fun P3 H11 s11 e11=>?_⟩⟩
   have s711:=s8.trans (s9.trans (s10.trans s11))
   have s411:=s5.trans (s6.trans (s7.trans s711))
   have s011:=s04.trans s411
   refine ⟨s011.seq hS,⟨by decide,by decide,hb⟩,fun c3=>⟨(by show (0:Int)<4;decide),_,rfl,_,Ay.of e11,fun D H12 s12 e12=>?_⟩⟩
   have x0:=Int.emod_nonneg c1 (show (90:Int)≠0 by decide)
   have x1:=Int.emod_lt_of_pos c1 (show (0:Int)<90 by decide)
   have y0:=Int.emod_nonneg c2 (show (900:Int)≠0 by decide)
   have y1:=Int.emod_lt_of_pos c2 (show (0:Int)<900 by decide)
   have z0:=Int.emod_nonneg c3 (show (4:Int)≠0 by decide)
   have z1:=Int.emod_lt_of_pos c3 (show (0:Int)<4 by decide)
   have g:=Akn (x:=1+c1 % 90) (y:=100+c2 % 900) ⟨by omega,by omega⟩ ⟨by omega,by omega⟩
   have u2:=s3.trans (s4.trans (s411.trans s12))
   have u4:=s411.trans s12
   have u6:=s7.trans (s711.trans s12)
   have u9:=s10.trans (s11.trans s12)
   have al:At (Dn H12) [.ref T2,.ref T4,.ref T6,.ref T8] [(0,1,2),(1+c1 % 90,4,7),(100+c2 % 900,8,9),(1000000,1,1)]:=
    .cons ⟨T2,T1,rfl,u2 _ _ e2,(s2.trans u2) _ _ e1⟩ (.cons ⟨T4,T3,rfl,u4 _ _ e4,(s4.trans u4) _ _ e3⟩ (.cons ⟨T6,T5,rfl,u6 _ _ e6,(s6.trans u6) _ _ e5⟩ (.cons ⟨T8,T7,rfl,u9 _ _ e9,(s9.trans u9) _ _ e8⟩ .nil)))
   obtain ⟨j,hj⟩:∃j:Nat,1+c3 % 4=j:=⟨(1+c3 % 4).toNat,by omega⟩
   have e12:H12 D=some (.lst (Hd [.ref T2,.ref T4,.ref T6,.ref T8] none (some (1+c3 % 4)))):=e12
   rw [hj] at e12
   have cj:Hd [V.ref T2,.ref T4,.ref T6,.ref T8] none (some (j:Int))=[V.ref T2,.ref T4,.ref T6,.ref T8].take j:=by
    have:j=1∨j=2∨j=3∨j=4:=by omega
    rcases this with rfl|rfl|rfl|rfl<;>rfl
   rw [cj] at e12
   exact q D _ H12 (s011.trans s12) ⟨_,e12,al.take j⟩ (g j (by omega) (by omega))
def RlN (K:PySem.W.Frag)(H0 H:Hp)(v:V)(so st fi one two:Int)(rows:List Rw):Prop:=∃a C dx fs T,v=.ref a∧H a=some (.ins C dx fs)∧Kn K so C∧Yb fs so st fi one two T∧TbL H T rows∧H0 T=none
theorem Gb {H:Hp}{x dx C:Addr}(hx:H x=none)(hd:H dx=none)(ne:dx≠x):Ah H (upd (upd H dx (.own x)) x (.ins C dx [])):=(Am hd).trans (Am (by rw [Ak (Ne.symm ne)];exact hx))
theorem Aek {H H1 H':Hp}{x:Addr}(hx:H x=none)(s:Ah H H1)(a:Sx x H1 H'):Ah H H':=fun b o e=>a b o (fun z=>by rw [z,hx] at e;cases e) (s b o e)
def Oo (K:PySem.W.Frag)(ns:List Int):Sp:=fun vs H Q _=>match vs with
 |[.ref d,.ref L]=>∃(so st fi one two:Int) (rows:List Rw) (vs:List V),(H d=some (.tup [.int so,.int st,.int fi,.int one,.int two])∧0≤so∧so≤3∧H L=some (.lst vs)∧At (Dn H) vs rows∧D6 rows)∧∀v H',Ah H H'→RlN K H H' v so st fi one two rows→Q v H'
 |_=>False
theorem Eh:Al ["_law_drawn","_law_rows_here","_law_sort","_law_step","_law_first","_law_one","_law_two"] ["_law_drawn","_law_rows_here"] (Af M8):=⟨rfl,rfl,rfl,by decide +kernel,rfl,by decide +kernel,by decide +kernel⟩
theorem Yn (d:B8 K mg "_law_rule" M8 ["_law_drawn","_law_rows_here"])(er:Bg K mg c_Capped c_Early c_Ledger c_NoTable c_Rested c_Rule)   (c_Capped___init__:Be P w K mg base [c_Capped] [] "__init__" ["self","step","first","table","cap"] 7 (Ct K ns))(c_Rested___init__:Be P w K mg base [c_Rested] [] "__init__" ["self","step","first","table","pause","times"] 7 (Cv K ns))(c_Early___init__:Be P w K mg base [c_Early] [] "__init__" ["self","step","first","table","early","many"] 7 (C3 K ns))(c_Rule___init__:Be P w K mg base [c_Rule] [c_Rule] "__init__" ["self","step","first","table"] 6 (Bp K ns)):Bm P w K mg base "_law_rule" ["_law_drawn","_law_rows_here"] 9 (Oo K ns):=by
 refine d.cal (k:=8) Eh (fun vs H Q E h=>?_) (fun f cdv A outer s H vs Q E hr h=>?_)
 ·match vs,h with
  |[.ref d,.ref L],_=>rfl
 ·match vs,h with
  | [.ref d,.ref L],hq0=>
   obtain ⟨so,st,fi,one,two,rows,vs,⟨hd,s0,s3,hL,al,good⟩,k⟩:=hq0
   refine ⟨_,(@Eu _ _ _ _ _ (@Af6 _ _ _ _ _ _ (dv 0) (@U2 _ _ _ _ _ _ rfl (@C4 _ _ _ _ _ (@A6 _ _ (2) _ Eh.nd rfl (by trivial) (by trivial)) (@C4 _ _ _ _ _ (@A6 _ _ (3) _ Eh.nd rfl (by trivial) (by trivial)) (@C4 _ _ _ _ _ (@A6 _ _ (4) _ Eh.nd rfl (by trivial) (by trivial)) (@C4 _ _ _ _ _ (@A6 _ _ (5) _ Eh.nd rfl (by trivial) (by trivial)) (@C4 _ _ _ _ _ (@A6 _ _ (6) _ Eh.nd rfl (by trivial) (by trivial)) Qi (by rfl)) (by rfl)) (by rfl)) (by rfl)) (by rfl)) (by rfl) (by rfl)) (by rfl) (by rfl) (by rfl)) (@Ae _ _ _ _ _ (@D8 _ _ _ _ _ _ _ _ (@Bv _ _ _ _ _ _ _ _ N5 (dv 2) Ab (@A5 _ _ (by decide) (by decide))) (@Ag _ _ _ (@Aq _ _ _ _ (Fg c_Rule___init__ (List.Mem.head _) er.m_Rule hr (by decide) (by rfl) er.b_Rule (@Aa _ _ _ _ _ (dv 3) (@Aa _ _ _ _ _ (dv 4) (@Aa _ _ _ _ _ (dv 1) Ac (by rfl)) (by rfl)) (by rfl))))) A8) (@Ae _ _ _ _ _ (@D8 _ _ _ _ _ _ _ _ (@Bv _ _ _ _ _ _ _ _ N5 (dv 2) Ab (@A5 _ _ (by decide) (by decide))) (@Ag _ _ _ (@Aq _ _ _ _ (Fg c_Early___init__ (List.Mem.head _) er.m_Early hr (by decide) (by rfl) er.b_Early (@Aa _ _ _ _ _ (dv 3) (@Aa _ _ _ _ _ (dv 4) (@Aa _ _ _ _ _ (dv 1) (@Aa _ _ _ _ _ (dv 5) (@Aa _ _ _ _ _ (dv 6) Ac (by rfl)) (by rfl)) (by rfl)) (by rfl)) (by rfl))))) A8) (@Ae _ _ _ _ _ (@D8 _ _ _ _ _ _ _ _ (@Bv _ _ _ _ _ _ _ _ N5 (dv 2) Ab (@A5 _ _ (by decide) (by decide))) (@Ag _ _ _ (@Aq _ _ _ _ (Fg c_Rested___init__ (List.Mem.head _) er.m_Rested hr (by decide) (by rfl) er.b_Rested (@Aa _ _ _ _ _ (dv 3) (@Aa _ _ _ _ _ (dv 4) (@Aa _ _ _ _ _ (dv 1) (@Aa _ _ _ _ _ (dv 5) (@Aa _ _ _ _ _ (dv 6) Ac (by rfl)) (by rfl)) (by rfl)) (by rfl)) (by rfl))))) A8) (@Ag _ _ _ (@Aq _ _ _ _ (Fg c_Capped___init__ (List.Mem.head _) er.m_Capped hr (by decide) (by rfl) er.b_Capped (@Aa _ _ _ _ _ (dv 3) (@Aa _ _ _ _ _ (dv 4) (@Aa _ _ _ _ _ (dv 1) (@Aa _ _ _ _ _ (dv 5) Ac (by rfl)) (by rfl)) (by rfl)) (by rfl))))))))),?_⟩
   refine ⟨fun σ H'=>σ=[some (.ref d),some (.ref L),some (.int so),some (.int st),some (.int fi),some (.int one),some (.int two)]∧H'=H,⟨d,_,rfl,E4.of hd,rfl,_,_,rfl,_,_,rfl,_,_,rfl,_,_,rfl,_,_,rfl,rfl,rfl,rfl⟩,?_⟩
   rintro σ H' ⟨rfl,rfl⟩
   have mk:∀(C x dx:Addr),H' x=none→H' dx=none→dx≠x→∃H1,H1=upd (upd H' dx (.own x)) x (.ins C dx [])∧Ah H' H1∧H1 x=some (.ins C dx [])∧H1 L=some (.lst vs)∧At (Dn H1) vs rows:=fun C x dx hx hd ne=>by
    have s:=Gb (C:=C) hx hd ne
    exact ⟨_,rfl,s,Ad,s _ _ hL,al.imp fun v g r=>Cm v g _ _ (A7 s) r⟩
   have fin:∀{C x dx T:Addr} {fs:List (Str×V)} {H1 H2:Hp},H' x=none→Ah H' H1→At (Dn H1) vs rows→H1 x=some (.ins C dx [])→Sx x H1 H2→T≠x→H1 T=none→H2 T=some (.lst vs)→H2 x=some (.ins C dx fs)→Kn K so C→Yb fs so st fi one two T→Ah H' H2∧RlN K H' H2 (.ref x) so st fi one two rows:=fun hx s1 a1 e0 s2 nT n1 eT ex kn f=>by
    refine ⟨Aek hx s1 s2,_,_,_,_,_,rfl,ex,kn,f,⟨_,eT,a1.imp fun v g r=>Cm v g _ _ (s2.kt e0) r⟩,Bl s1 n1⟩
   refine ⟨fun h=>?_,fun h=>?_⟩
   ·have h:so=0:=by simpa using h
    subst h
    intro x dx hx hd' ne
    obtain ⟨H1,rfl,s1,e1,eL,a1⟩:=mk _ _ _ hx hd' ne
    refine ⟨_,dx,[],rows,vs,⟨e1,er.l_Rule,er.na_Rule_step,er.na_Rule_first,er.na_Rule_table,by decide,eL,a1,good⟩,fun T H2 s2 nT n1 eT ex=>⟨rfl,?_⟩⟩
    have f0:=fd0 (st:=st) (fi:=fi) (T:=T) (fs:=[]) rfl
    obtain ⟨z1,z2⟩:=fin hx s1 a1 e1 s2 nT n1 eT ex (.inl ⟨rfl,er.y_Rule⟩) ⟨f0.st,f0.fi,f0.tb,f0.sz,f0.bt,f0.tw,fun h=>absurd h (by decide),fun h=>absurd h (by decide),fun h=>absurd h (by decide)⟩
    exact k _ H2 z1 z2
   have n0:so≠0:=by simpa using h
   refine ⟨fun h=>?_,fun h=>?_⟩
   ·have h:so=1:=by simpa using h
    subst h
    intro x dx hx hd' ne
    obtain ⟨H1,rfl,s1,e1,eL,a1⟩:=mk _ _ _ hx hd' ne
    refine ⟨_,dx,rows,vs,⟨e1,er.y_Early,eL,a1,good⟩,fun T fs H2 s2 nT n1 eT ex f=>⟨rfl,?_⟩⟩
    obtain ⟨z1,z2⟩:=fin hx s1 a1 e1 s2 nT n1 eT ex (.inr (.inl ⟨rfl,er.y_Early⟩)) f
    exact k _ H2 z1 z2
   have n1:so≠1:=by simpa using h
   refine ⟨fun h=>?_,fun h=>?_⟩
   ·have h:so=2:=by simpa using h
    subst h
    intro x dx hx hd' ne
    obtain ⟨H1,rfl,s1,e1,eL,a1⟩:=mk _ _ _ hx hd' ne
    refine ⟨_,dx,rows,vs,⟨e1,er.y_Rested,eL,a1,good⟩,fun T fs H2 s2 nT n1 eT ex f=>⟨rfl,?_⟩⟩
    obtain ⟨z1,z2⟩:=fin hx s1 a1 e1 s2 nT n1 eT ex (.inr (.inr (.inl ⟨rfl,er.y_Rested⟩))) f
    exact k _ H2 z1 z2
   have n2:so≠2:=by simpa using h
   have h:so=3:=by omega
   subst h
   intro x dx hx hd' ne
   obtain ⟨H1,rfl,s1,e1,eL,a1⟩:=mk _ _ _ hx hd' ne
   refine ⟨_,dx,rows,vs,⟨e1,er.y_Capped,eL,a1,good⟩,fun T fs H2 s2 nT n1 eT ex f=>⟨rfl,?_⟩⟩
   obtain ⟨z1,z2⟩:=fin hx s1 a1 e1 s2 nT n1 eT ex (.inr (.inr (.inr ⟨rfl,er.y_Capped⟩))) (f two)
   exact k _ H2 z1 z2
def btQ (so one z h:Int)(x:Q2):Q2:=if so=3 then Rb (unQ z h x) one else unQ z h x
abbrev Ce:Pos:=⟨51,29,51,53⟩
abbrev Gj:Str:=Str.ofString "in_order"++Str.ofString ".<locals>."++Str.ofString "<lambda>"
abbrev Bx (K:PySem.W.Frag):Addr:=Pt K "in_order"
def dk (gs:List Gm)(i:Nat):Int:=match gs[i]? with
 |some g=>g.d
 |none=>0
theorem Ag0 {key:Nat→Int}{n:Nat}{p:List Nat}(h:Fx key n p):p.Nodup:=h.2.2.imp fun {a b} l e=>by
 subst e
 rcases l with l|⟨_,l⟩
 ·exact Int.lt_irrefl _ l
 ·exact Nat.lt_irrefl _ l
theorem Fu {key:Nat→Int}{n:Nat}{p:List Nat}(h:Fx key n p):p.Perm (List.range n):=by
 have nd:=Ag0 h
 refine (List.perm_ext_iff_of_nodup nd List.nodup_range).mpr fun i=>⟨fun hi=>List.mem_range.mpr (h.2.1 i hi),fun hi=>?_⟩
 refine Classical.byContradiction fun c=>?_
 have:=Hq (l:=i::p) (m:=List.range n) (List.nodup_cons.mpr ⟨c,nd⟩) fun x hx=>by
  rcases List.mem_cons.mp hx with rfl|hx
  ·exact hi
  ·exact List.mem_range.mpr (h.2.1 x hx)
 rw [List.length_cons,List.length_range,h.1] at this
 omega
theorem Aa5 {key:Nat→Int}{n:Nat}{p q:List Nat}(hp:Fx key n p)(hq:Fx key n q):p=q:=by
 refine List.Perm.eq_of_pairwise (le:=Lt key) (fun a b _ _ l l'=>?_) hp.2.2 hq.2.2 ((Fu hp).trans (Fu hq).symm)
 rcases l with l|⟨e,l⟩
 ·rcases l' with l'|⟨e',l'⟩<;>omega
 ·rcases l' with l'|⟨e',l'⟩<;>omega
def Xt (P:Addr)(H H':Hp):Prop:=∀b o,b≠P→H b=some o→H' b=some o
def pk (vs:List V)(p:List Nat):List V:=p.map fun i=>vs.getD i .non
theorem Afc {H:Hp}{vs:List V}{gs:List Gm}(a:At (Bw H) vs gs){i:Nat}{v:V}(e:vs[i]? =some v):∃g,gs[i]? =some g∧Bw H v g∧dk gs i=g.d:=by
 obtain ⟨g,h1,h2⟩:=a.get e
 refine ⟨g,h1,h2,?_⟩
 unfold dk
 rw [h1]
def Ex (K:PySem.W.Frag)(ns:List Int):Sp:=fun vs H Q _=>match vs with
 |[.ref L]=>∃(gs:List Gm) (xs:List V),(Ay K H L xs∧At (Bw H) xs gs∧gs.length<64∧A3 H (Bx K) Ce Gj)∧∀D H' p,Xt (Bx K) H H'→H D=none→H' D=some (.lst (pk xs p))→A3 H' (Bx K) Ce Gj→Fx (dk gs) gs.length p→Q (.ref D) H'
 |_=>False
theorem Tp:Al ["games"] ["games"] (Af Cp):=⟨rfl,rfl,rfl,by decide +kernel,rfl,by decide +kernel,by decide +kernel⟩
theorem Ua (d:B8 K mg "in_order" Cp ["games"])(tk:Ags K mg base "in_order")(er:Bg K mg c_Capped c_Early c_Ledger c_NoTable c_Rested c_Rule)(n_sorted:mg "sorted"=none)  :Bm P w K mg base "in_order" ["games"] 3 (Ex K ns):=by
 refine d.calT (k:=2) tk Tp (fun vs H Q E h=>?_) (fun f cdv A outer s H vs Q E tf hr h=>?_)
 ·match vs,h with
  |[.ref L],_=>rfl
 ·match vs,h with
  |[.ref L],hq0=>
   obtain ⟨gs,xs,⟨hx,hm,hl,hT⟩,k⟩:=hq0
   refine ⟨_,(@Ag _ _ _ (@Aq _ _ _ _ (@Aci _ _ _ _ _ _ _ _ _ _ _ _ _ (0) tf hr (by rfl) n_sorted (@Aa _ _ _ _ _ (dv 0) Ac (by rfl)) (by decide) (by rfl) (by intros;rfl)))),?_⟩
   refine ⟨L,xs,dk gs,rfl,hx,by rw [hm.len];exact hl,fun i v e=>?_,hT,fun D H2 p s d e t st=>k D H2 p s d e t (by rw [←hm.len];exact st)⟩
   obtain ⟨g,h1,⟨a,rfl,ea⟩,h3⟩:=Afc hm e
   rw [h3]
   exact ⟨a,_,rfl,ea⟩
def BtT (K:PySem.W.Frag)(T:List (Addr×Sp)):Prop:=∀so C,Kn K so C→∃sp,(C,sp)∈T∧∀a H st fi one two rows d h p r Q (x:Q2),K8 K H a so st fi one two rows→Tb rows→Nb st one two→Fq 1300 H d x.1 x.2→0≤h→h≤2→(∀q H',Ah H H'→H' q=some (.tup [.int (btQ so one (Oe so st one two p r) h (Ip rows x.1 x.2)).1,.int (btQ so one (Oe so st one two p r) h (Ip rows x.1 x.2)).2])→Q (.ref q) H')→sp [.ref a,.ref d,.int h,.int p,.int r] H Q E0
theorem Akp {K:PySem.W.Frag}{ns:List Int}{c0 c1 c2 c3:Addr}(y0:PySem.W.nsIn K mainGlobals "Rule"=some (some (.ref c0)))(y1:PySem.W.nsIn K mainGlobals "Early"=some (some (.ref c1)))(y2:PySem.W.nsIn K mainGlobals "Rested"=some (some (.ref c2)))(y3:PySem.W.nsIn K mainGlobals "Capped"=some (some (.ref c3))) :
  BtT K [(c0,Dx K ns),(c1,Dx K ns),(c2,Dx K ns),(c3,E9 K ns)]:=by
 rintro so C (⟨rfl,h⟩|⟨rfl,h⟩|⟨rfl,h⟩|⟨rfl,h⟩)
 ·have z:=Ao h y0
  subst z
  exact ⟨_,.head _,fun a H st fi one two rows d h p r Q x hR tb b f h0 h2 k=>⟨0,st,fi,one,two,rows,x,⟨hR,by decide,tb,b,f,h0,h2⟩,k⟩⟩
 ·have z:=Ao h y1
  subst z
  exact ⟨_,.tail _ (.head _),fun a H st fi one two rows d h p r Q x hR tb b f h0 h2 k=>⟨1,st,fi,one,two,rows,x,⟨hR,by decide,tb,b,f,h0,h2⟩,k⟩⟩
 ·have z:=Ao h y2
  subst z
  exact ⟨_,.tail _ (.tail _ (.head _)),fun a H st fi one two rows d h p r Q x hR tb b f h0 h2 k=>⟨2,st,fi,one,two,rows,x,⟨hR,by decide,tb,b,f,h0,h2⟩,k⟩⟩
 ·have z:=Ao h y3
  subst z
  exact ⟨_,.tail _ (.tail _ (.tail _ (.head _))),fun a H st fi one two rows d h p r Q x hR tb b f h0 h2 k=>⟨st,fi,one,two,rows,x,⟨hR,tb,b,f,h0,h2⟩,k⟩⟩
theorem Tf {K:PySem.W.Frag}{H:Hp}:∀(us:List Int),O6 K H (us.map V.int) (us.map PyData.int)
 |[]=>.nil
 |u::us=>.cons (.int _) (Tf us)
theorem Wr:∀(us:List Int),PyData.canLayAll0 (us.map PyData.int)=true
 |[]=>rfl
 |u::us=>by
  show (true&&PyData.canLayAll0 (us.map PyData.int))=true
  rw [Wr us]
  rfl
theorem Wq:∀(us:List Int),PyData.depthAll (us.map PyData.int)=0
 |[]=>rfl
 |u::us=>by
  show max 0 (PyData.depthAll (us.map PyData.int))=0
  rw [Wq us]
  rfl
theorem Adq (us:List Int):SeqAt.shaped (.list (us.map PyData.int))=true:=by
 unfold SeqAt.shaped
 have e:(PyData.list (us.map PyData.int)).depth=PyData.depthAll (us.map PyData.int)+1:=rfl
 have:=Wq us
 rw [show (PyData.list (us.map PyData.int)).canLay0=true from Wr us,e,Bool.true_and]
 exact decide_eq_true (by omega)
structure Ps where
 q:Q2
 n:Nat
 l:Int
abbrev Wn:=Str→Option Ps
def wq (fi:Int):Option Ps→Q2
 |some p=>p.q
 |none=>(fi,1)
def Uz:Option Ps→Nat
 |some p=>p.n
 |none=>0
def wr (d:Int):Option Ps→Int
 |some p=>d-p.l
 |none=>0
def mn (i j:Int):Int:=if j<i then j else i
def mx (i j:Int):Int:=if j>i then j else i
def lsd (d:Int):Option Int→Int
 |some l=>d-l
 |none=>0
def G0 (K:PySem.W.Frag)(ns:List Int):Sp:=fun vs H Q _=>match vs with
 |[.ref L,.int d]=>∃xs:List Int,H L=some (.lst (xs.map V.int))∧∀H',Ah H H'→Q (.int (lsd d xs.getLast?)) H'
 |_=>False
theorem L5:Al ["days","day"] ["days","day"] (Af E8):=⟨rfl,rfl,rfl,by decide +kernel,rfl,by decide +kernel,by decide +kernel⟩
theorem M5 (d:B8 K mg "rest_behind" E8 ["days","day"])(er:Bg K mg c_Capped c_Early c_Ledger c_NoTable c_Rested c_Rule)   :Bm P w K mg base "rest_behind" ["days","day"] 1 (G0 K ns):=by
 refine d.cal (k:=0) L5 (fun vs H Q E h=>?_) (fun f cdv A outer s H vs Q E hr h=>?_)
 ·match vs,h with
  |[.ref L,.int d],_=>rfl
 ·match vs,h with
  | [.ref L,.int d],hq0=>
   obtain ⟨xs,hL,k⟩:=hq0
   refine ⟨_,(@Ag _ _ _ (@Aq _ _ _ _ (@Aec _ _ _ _ _ _ _ _ (@Bv _ _ _ _ _ _ _ _ (@Kw _ hr.units) (dv 0) (@Iw _ _ _ _ Ac) (@A5 _ _ (by decide) (by decide))) Ab (@Aj _ _ _ _ _ _ _ _ Sj (dv 1) (@Ap _ _ _ _ _ _ _ Dd (dv 0) (@Op _ _ _ _ _ _ O5 Ab) (fun _ _=>rfl)))))),?_⟩
   intro E0' H1 s1 e1
   have hL1:=s1 _ _ hL
   refine ⟨_,_,.lst (Ay.of hL1) (Tf xs),.lst (Ay.of e1) .nil,Adq xs,rfl,?_⟩
   cases xs with
   |nil=>exact ⟨fun _=>k H1 s1,fun h=>absurd (show PyData.eqv (.list []) (.list [])=false from h) (by decide)⟩
   | cons x xs=>
    have ne:PyData.eqv (.list ((x::xs).map PyData.int)) (.list [])=false:=rfl
    rw [ne]
    refine ⟨fun h=>nb h,fun _=>?_⟩
    obtain ⟨l,hl⟩:∃l,(x::xs).getLast? =some l:=by
     cases c:(x::xs).getLast? with
     |none=>simp at c
     |some l=>exact ⟨l,rfl⟩
    refine ⟨_,.int l,Ay.of hL1,Sr (by rw [List.getLast?_map,hl];rfl),?_⟩
    have:=k H1 s1
    rw [hl] at this
    exact this
structure Sd where
 g:Gm
 x:Q2
 y:Q2
 b:Q2
def Q8 (H:Hp)(v:V)(s:Sd):Prop:=∃t pg px py pb,v=.ref t∧H t=some (.tup [.ref pg,.ref px,.ref py,.ref pb])∧H pg=some (.tup [.int s.g.d,.str s.g.a,.str s.g.b,.int s.g.h,.int s.g.s])∧H px=some (.tup [.int s.x.1,.int s.x.2])∧H py=some (.tup [.int s.y.1,.int s.y.2])∧H pb=some (.tup [.int s.b.1,.int s.b.2])
theorem Ma (v:V)(s:Sd)(H H':Hp)(k:Kt H H')(h:Q8 H v s):Q8 H' v s:=by
 obtain ⟨t,pg,px,py,pb,e,h0,h1,h2,h3,h4⟩:=h
 exact ⟨t,pg,px,py,pb,e,k _ _ h0,k _ _ h1,k _ _ h2,k _ _ h3,k _ _ h4⟩
def plQ (x y:Q2):Q2:=(Ud (x.1*y.2+y.1*x.2) (x.2*y.2),Ru (x.1*y.2+y.1*x.2) (x.2*y.2))
def mnQ (x y:Q2):Q2:=(Ud (x.1*y.2-y.1*x.2) (x.2*y.2),Ru (x.1*y.2-y.1*x.2) (x.2*y.2))
structure Sq (n:Nat)(x:Q2):Prop where
 pos:0<x.2
 ba:Bd n x.1
 bb:Bd n x.2
theorem Sq.fq {n m:Nat}{H:Hp}{p:Addr}{x:Q2}(s:Sq n x)(l:n≤m)(e:H p=some (.tup [.int x.1,.int x.2])):Fq m H p x.1 x.2:=⟨e,s.pos,s.ba.mono l,s.bb.mono l⟩
def Rj (K:PySem.W.Frag)(ns:List Int):Sp:=fun vs H Q _=>match vs with
 |[.ref W,v]=>∃(kvs:List (B4×V)) (s:Sd),(H W=some (.dK kvs)∧kvs.length≤100∧Q8 H v s∧Sq 900 s.x∧Sq 900 s.y∧Sq 900 s.b)∧∀p1 p2 H',Sx W H H'→p1≠W→p2≠W→H' p1=some (.tup [.int (plQ s.x s.b).1,.int (plQ s.x s.b).2])→H' p2=some (.tup [.int (mnQ s.y s.b).1,.int (mnQ s.y s.b).2])→H' W=some (.dK (Cu (Cu kvs (Sum.inr s.g.a) (.ref p1)) (Sum.inr s.g.b) (.ref p2)))→Q .non H'
 |_=>False
theorem Adx:Al ["worths","step"] ["worths","step"] (Af Uv):=⟨rfl,rfl,rfl,by decide +kernel,rfl,by decide +kernel,by decide +kernel⟩
theorem Adw (d:B8 K mg "move" Uv ["worths","step"])(er:Bg K mg c_Capped c_Early c_Ledger c_NoTable c_Rested c_Rule)   (c_minus:Bm P w K mg base "minus" ["one","other"] 3 (Fr K ns))(c_plus:Bm P w K mg base "plus" ["one","other"] 3 (Wc K ns)):Bm P w K mg base "move" ["worths","step"] 4 (Rj K ns):=by
 refine d.cal (k:=3) Adx (fun vs H Q E h=>?_) (fun f cdv A outer s H vs Q E hr h=>?_)
 ·match vs,h with
  |[.ref W,v],_=>rfl
 ·match vs,h with
  | [.ref W,v],hq0=>
   obtain ⟨kvs,s,⟨hW,lk,⟨t,pg,px,py,pb,ev,h0,h1,h2,h3,h4⟩,sx,sy,sb⟩,k⟩:=hq0
   refine ⟨_,(@Ae _ _ _ _ _ (@Je _ _ _ _ _ _ _ _ _ (@u1 _ _ hr.units) (dv 0) (@Ap _ _ _ _ _ _ _ Av (@Ap _ _ _ _ _ _ _ Av (dv 1) Ab (fun _ _=>rfl)) Ab (fun _ _=>rfl)) (@An _ _ _ _ _ _ _ _ _ _ _ c_plus hr (by decide) (by rfl) (@Aa _ _ _ _ _ (@Ap _ _ _ _ _ _ _ Av (dv 1) Ab (fun _ _=>rfl)) (@Aa _ _ _ _ _ (@Ap _ _ _ _ _ _ _ Av (dv 1) Ab (fun _ _=>rfl)) Ac (by rfl)) (by rfl)) (by decide) (by rfl) (by rfl)) rfl) (@Ag _ _ _ (@Je _ _ _ _ _ _ _ _ _ (@u1 _ _ hr.units) (dv 0) (@Ap _ _ _ _ _ _ _ Av (@Ap _ _ _ _ _ _ _ Av (dv 1) Ab (fun _ _=>rfl)) Ab (fun _ _=>rfl)) (@An _ _ _ _ _ _ _ _ _ _ _ c_minus hr (by decide) (by rfl) (@Aa _ _ _ _ _ (@Ap _ _ _ _ _ _ _ Av (dv 1) Ab (fun _ _=>rfl)) (@Aa _ _ _ _ _ (@Ap _ _ _ _ _ _ _ Av (dv 1) Ab (fun _ _=>rfl)) Ac (by rfl)) (by rfl)) (by decide) (by rfl) (by rfl)) rfl))),?_⟩
   subst ev
   have ne:∀{b:Addr} {xs:List V},H b=some (.tup xs)→b≠W:=fun e z=>by rw [z,hW] at e;cases e
   refine ⟨_,h0,_,h0,s.x,s.b,⟨sx.fq (by decide) h2,sb.fq (by decide) h4⟩,fun p1 H1 s1 f1=>⟨_,s1 _ _ h0,_,s1 _ _ h1,W,_,rfl,Q7.k (k:=Sum.inr s.g.a) (s1 _ _ hW) ?_,?_⟩⟩
   ·exact Nat.lt_of_le_of_lt lk (by decide)
   have x1:Sx W H (upd H1 W (.dK (Cu kvs (Sum.inr s.g.a) (.ref p1)))):=Sx.trans (Sx.of s1) Sx.upd
   have e1:upd H1 W (.dK (Cu kvs (Sum.inr s.g.a) (.ref p1))) W=some (.dK (Cu kvs (Sum.inr s.g.a) (.ref p1))):=Ad
   have n1:p1≠W:=fun z=>by
    have:=f1.at'
    rw [z,s1 _ _ hW] at this
    cases this
   have g1:upd H1 W (.dK (Cu kvs (Sum.inr s.g.a) (.ref p1))) p1=some (.tup [.int (plQ s.x s.b).1,.int (plQ s.x s.b).2]):=by rw [Ak n1];exact f1.at'
   generalize upd H1 W (.dK (Cu kvs (Sum.inr s.g.a) (.ref p1)))=H2 at x1 e1 g1
   have l1:=Cy kvs (Sum.inr s.g.a) (.ref p1)
   have q0:=x1 _ _ (ne h0) h0
   have q1:=x1 _ _ (ne h1) h1
   refine ⟨_,q0,_,q0,s.y,s.b,⟨sy.fq (by decide) (x1 _ _ (ne h3) h3),sb.fq (by decide) (x1 _ _ (ne h4) h4)⟩,fun p2 H3 s3 f3=>⟨_,s3 _ _ q0,_,s3 _ _ q1,W,_,rfl,Q7.k (k:=Sum.inr s.g.b) (s3 _ _ e1) ?_,?_⟩⟩
   ·exact Nat.lt_of_le_of_lt (show _≤101 by omega) (by decide)
   have n2:p2≠W:=fun z=>by
    have:=f3.at'
    rw [z,s3 _ _ e1] at this
    cases this
   exact k p1 p2 _ (x1.trans (Sx.trans (Sx.of s3) Sx.upd)) n1 n2 (by rw [Ak n1];exact s3 _ _ g1) (by rw [Ak n2];exact f3.at') Ad
def Gv (H:Hp)(W:Addr)(n:Nat)(u:Str→Option Q2):Prop:=∃kvs,H W=some (.dK kvs)∧kvs.length≤n∧∀x,(u x=none∧B5 kvs (Sum.inr x)=none)∨∃q p,u x=some q∧B5 kvs (Sum.inr x)=some (.ref p)∧H p=some (.tup [.int q.1,.int q.2])
def G2 (H:Hp)(D:Addr)(n:Nat)(v:Str→Option (Nat×Int)):Prop:=∃kvs,H D=some (.dK kvs)∧kvs.length≤n∧∀x,(v x=none∧B5 kvs (Sum.inr x)=none)∨∃m l p xs,v x=some (m,l)∧B5 kvs (Sum.inr x)=some (.ref p)∧H p=some (.lst ((xs:List Int).map V.int))∧xs.length=m∧xs.getLast? =some l
def wU (w:Wn):Str→Option Q2:=fun x=>(w x).map Ps.q
def wV (w:Wn):Str→Option (Nat×Int):=fun x=>(w x).map fun s=>(s.n,s.l)
theorem Gv.up {H H':Hp}{W:Addr}{n:Nat}{u:Str→Option Q2}(s:Ah H H')(h:Gv H W n u):Gv H' W n u:=by
 obtain ⟨kvs,e,l,a⟩:=h
 exact ⟨kvs,s _ _ e,l,fun x=>(a x).imp id fun ⟨q,p,h1,h2,h3⟩=>⟨q,p,h1,h2,s _ _ h3⟩⟩
theorem G2.up {H H':Hp}{W:Addr}{n:Nat}{v:Str→Option (Nat×Int)}(s:Ah H H')(h:G2 H W n v):G2 H' W n v:=by
 obtain ⟨kvs,e,l,a⟩:=h
 exact ⟨kvs,s _ _ e,l,fun x=>(a x).imp id fun ⟨m,l,p,xs,h1,h2,h3,h4⟩=>⟨m,l,p,xs,h1,h2,s _ _ h3,h4⟩⟩
theorem Gv.get {H:Hp}{W T:Addr}{n:Nat}{w:Wn}{fi:Int}(h:Gv H W n (wU w))(x:Str)(e:H T=some (.tup [.int fi,.int 1])):∃o p,Fm H W (.str x) o∧o.getD (.ref T)=.ref p∧H p=some (.tup [.int (wq fi (w x)).1,.int (wq fi (w x)).2]):=by
 obtain ⟨kvs,eW,l,a⟩:=h
 have d:=Fm.k (k:=Sum.inr x) eW
 rcases a x with ⟨h1,h2⟩|⟨q,p,h1,h2,h3⟩
 ·rw [h2] at d
  have:w x=none:=Option.map_eq_none_iff.mp h1
  rw [this]
  exact ⟨_,T,d,rfl,e⟩
 ·rw [h2] at d
  obtain ⟨s,hs,rfl⟩:=Option.map_eq_some_iff.mp h1
  rw [hs]
  exact ⟨_,p,d,rfl,h3⟩
theorem G2.get' {H:Hp}{D T:Addr}{n:Nat}{v:Str→Option (Nat×Int)}(h:G2 H D n v)(x:Str)(e:H T=some (.lst [])):∃o p xs,Fm H D (.str x) o∧o.getD (.ref T)=.ref p∧H p=some (.lst ((xs:List Int).map V.int))∧((v x=none∧xs=[])∨∃m l,v x=some (m,l)∧xs.length=m∧xs.getLast? =some l):=by
 obtain ⟨kvs,eW,l,a⟩:=h
 have d:=Fm.k (k:=Sum.inr x) eW
 rcases a x with ⟨h1,h2⟩|⟨m,l,p,xs,h1,h2,h3,h4,h5⟩
 ·rw [h2] at d
  exact ⟨_,T,[],d,rfl,e,.inl ⟨h1,rfl⟩⟩
 ·rw [h2] at d
  exact ⟨_,p,xs,d,rfl,h3,.inr ⟨m,l,h1,h4,h5⟩⟩
theorem G2.get {H:Hp}{D T:Addr}{n:Nat}{w:Wn}(h:G2 H D n (wV w))(x:Str)(e:H T=some (.lst [])):∃o p xs,Fm H D (.str x) o∧o.getD (.ref T)=.ref p∧H p=some (.lst ((xs:List Int).map V.int))∧xs.length=Uz (w x)∧∀d,lsd d xs.getLast? =wr d (w x):=by
 obtain ⟨o,p,xs,d,g,q,c⟩:=h.get' x e
 refine ⟨o,p,xs,d,g,q,?_⟩
 rcases c with ⟨h1,rfl⟩|⟨m,l,h1,h4,h5⟩
 ·have:w x=none:=Option.map_eq_none_iff.mp h1
  rw [this]
  exact ⟨rfl,fun _=>rfl⟩
 ·obtain ⟨s,hs,e⟩:=Option.map_eq_some_iff.mp h1
  cases e
  rw [hs,h5]
  exact ⟨h4,fun _=>rfl⟩
def I0 (so st fi one two:Int)(rows:List Rw)(w:Wn)(g:Gm):Q2:=
 btQ so one (Oe so st one two (mn (Uz (w g.a)) (Uz (w g.b))) (mx (wr g.d (w g.a)) (wr g.d (w g.b)))) g.h (Ip rows (mnQ (wq fi (w g.a)) (wq fi (w g.b))).1 (mnQ (wq fi (w g.a)) (wq fi (w g.b))).2)
theorem Afu {n m:Nat}{H:Hp}{p:Addr}{x y:Q2}(sx:Sq n x)(sy:Sq n y)(l:n+n+1≤m)(f:Yo H p (x.1*y.2-y.1*x.2) (x.2*y.2)):Fq m H p (mnQ x y).1 (mnQ x y).2:=
 (f.fq (n:=m) (Int.ne_of_gt (Int.mul_pos sx.pos sy.pos)) ((Bd.sub (sx.ba.mul sy.bb) (sy.ba.mul sx.bb)).mono l) ((sx.bb.mul sy.bb).mono (by omega)))
def Ix (K:PySem.W.Frag)(ns:List Int):Sp:=fun vs H Q _=>match vs with
 |[.ref r,.ref W,.ref D,.ref pg]=>∃(so st fi one two:Int) (rows:List Rw) (w:Wn) (n:Nat) (g:Gm),(K8 K H r so st fi one two rows∧Tb rows∧Nb st one two∧Gv H W n (wU w)∧G2 H D n (wV w)∧H pg=some (.tup [.int g.d,.str g.a,.str g.b,.int g.h,.int g.s])∧0≤g.h∧g.h≤2∧Sq 620 (wq fi (w g.a))∧Sq 620 (wq fi (w g.b))) ∧
  ∀v H',Ah H H'→Q8 H' v ⟨g,wq fi (w g.a),wq fi (w g.b),I0 so st fi one two rows w g⟩→Q v H'
 |_=>False
theorem B9:Al ["rule","worths","days","played","before","other_before","own","others","fewest","longest"] ["rule","worths","days","played"] (Af Gw):=⟨rfl,rfl,rfl,by decide +kernel,rfl,by decide +kernel,by decide +kernel⟩
theorem Qr (d:B8 K mg "next_step" Gw ["rule","worths","days","played"])(er:Bg K mg c_Capped c_Early c_Ledger c_NoTable c_Rested c_Rule)(n_max:mg "max"=none)(n_min:mg "min"=none)(n_len:mg "len"=none)  (c_Capped_bit:Be P w K mg base [c_Capped] [] "bit" ["self","difference","halves","played","rest"] 7 (E9 K ns))(c_Rule_bit:Be P w K mg base [c_Rule,c_Early,c_Rested] [] "bit" ["self","difference","halves","played","rest"] 7 (Dx K ns))(c_minus:Bm P w K mg base "minus" ["one","other"] 3 (Fr K ns))(c_rest_behind:Bm P w K mg base "rest_behind" ["days","day"] 1 (G0 K ns)):Bm P w K mg base "next_step" ["rule","worths","days","played"] 8 (Ix K ns):=by
 refine d.cal (k:=7) B9 (fun vs H Q E h=>?_) (fun f cdv A outer s H vs Q E hr h=>?_)
 ·match vs,h with
  |[.ref r,.ref W,.ref D,.ref pg],_=>rfl
 ·match vs,h with
  | [.ref r,.ref W,.ref D,.ref pg],hq0=>
   obtain ⟨so,st,fi,one,two,rows,w,n,g,⟨hR,tb,b,hW,hD,hg,h0,h2,sa,sb⟩,k⟩:=hq0
   refine ⟨_,(@Ae _ _ _ _ _ (@Au _ _ (4) _ _ _ _ B9.nd rfl (by trivial) (@Gx _ _ _ _ _ _ _ _ _ (@u1 _ _ hr.units) (dv 1) (@Ap _ _ _ _ _ _ _ Av (dv 3) Ab (fun _ _=>rfl)) (@Ca _ _ _ _ _ (@Aa _ _ _ _ _ (@Ax _ _ _ _ _ (dv 0) (by rfl)) (@Aa _ _ _ _ _ Ab Ac (by rfl)) (by rfl))) ⟨rfl,rfl,rfl,rfl⟩) (by rfl) (by trivial)) (@Ae _ _ _ _ _ (@Au _ _ (5) _ _ _ _ B9.nd rfl (by trivial) (@Gx _ _ _ _ _ _ _ _ _ (@u1 _ _ hr.units) (dv 1) (@Ap _ _ _ _ _ _ _ Av (dv 3) Ab (fun _ _=>rfl)) (@Ca _ _ _ _ _ (@Aa _ _ _ _ _ (@Ax _ _ _ _ _ (dv 0) (by rfl)) (@Aa _ _ _ _ _ Ab Ac (by rfl)) (by rfl))) ⟨rfl,rfl,rfl,rfl⟩) (by rfl) (by trivial)) (@Ae _ _ _ _ _ (@Au _ _ (6) _ _ _ _ B9.nd rfl (by trivial) (@Gx _ _ _ _ _ _ _ _ _ (@u1 _ _ hr.units) (dv 2) (@Ap _ _ _ _ _ _ _ Av (dv 3) Ab (fun _ _=>rfl)) (@Iw _ _ _ _ Ac) ⟨rfl,rfl,rfl,rfl⟩) (by rfl) (by trivial)) (@Ae _ _ _ _ _ (@Au _ _ (7) _ _ _ _ B9.nd rfl (by trivial) (@Gx _ _ _ _ _ _ _ _ _ (@u1 _ _ hr.units) (dv 2) (@Ap _ _ _ _ _ _ _ Av (dv 3) Ab (fun _ _=>rfl)) (@Iw _ _ _ _ Ac) ⟨rfl,rfl,rfl,rfl⟩) (by rfl) (by trivial)) (@Ae _ _ _ _ _ (@Au _ _ (8) _ _ _ _ B9.nd rfl (by trivial) (@Aw _ _ _ _ _ _ _ _ _ (@Yc _ rfl) (by rfl) n_min (by decide +kernel) (@Aa _ _ _ _ _ (@Aw _ _ _ _ _ _ _ _ _ Df (by rfl) n_len (by decide +kernel) (@Aa _ _ _ _ _ (dv 6) Ac (by rfl)) (by decide) (by decide) (by rfl) (by rfl)) (@Aa _ _ _ _ _ (@Aw _ _ _ _ _ _ _ _ _ Df (by rfl) n_len (by decide +kernel) (@Aa _ _ _ _ _ (dv 7) Ac (by rfl)) (by decide) (by decide) (by rfl) (by rfl)) Ac (by rfl)) (by rfl)) (by decide) (by decide) (by rfl) (by rfl)) (by rfl) (by trivial)) (@Ae _ _ _ _ _ (@Au _ _ (9) _ _ _ _ B9.nd rfl (by trivial) (@Aw _ _ _ _ _ _ _ _ _ (@Ys _ rfl) (by rfl) n_max (by decide +kernel) (@Aa _ _ _ _ _ (@An _ _ _ _ _ _ _ _ _ _ _ c_rest_behind hr (by decide) (by rfl) (@Aa _ _ _ _ _ (dv 6) (@Aa _ _ _ _ _ (@Ap _ _ _ _ _ _ _ Av (dv 3) Ab (fun _ _=>rfl)) Ac (by rfl)) (by rfl)) (by decide) (by rfl) (by rfl)) (@Aa _ _ _ _ _ (@An _ _ _ _ _ _ _ _ _ _ _ c_rest_behind hr (by decide) (by rfl) (@Aa _ _ _ _ _ (dv 7) (@Aa _ _ _ _ _ (@Ap _ _ _ _ _ _ _ Av (dv 3) Ab (fun _ _=>rfl)) Ac (by rfl)) (by rfl)) (by decide) (by rfl) (by rfl)) Ac (by rfl)) (by rfl)) (by decide) (by decide) (by rfl) (by rfl)) (by rfl) (by trivial)) (@Ag _ _ _ (@Aq _ _ _ _ (@Ca _ _ _ _ _ (@Aa _ _ _ _ _ (dv 3) (@Aa _ _ _ _ _ (dv 4) (@Aa _ _ _ _ _ (dv 5) (@Aa _ _ _ _ _ (Dr (dv 0) (Az c_Rule_bit (List.Mem.head _) er.l_Rule (by decide) (Az c_Rule_bit (List.Mem.tail _ (List.Mem.head _)) er.l_Early (by decide) (Az c_Rule_bit (List.Mem.tail _ (List.Mem.tail _ (List.Mem.head _))) er.l_Rested (by decide) (Az c_Capped_bit (List.Mem.head _) er.l_Capped (by decide) B3)))) hr (@Aa _ _ _ _ _ (@An _ _ _ _ _ _ _ _ _ _ _ c_minus hr (by decide) (by rfl) (@Aa _ _ _ _ _ (dv 4) (@Aa _ _ _ _ _ (dv 5) Ac (by rfl)) (by rfl)) (by decide) (by rfl) (by rfl)) (@Aa _ _ _ _ _ (@Ap _ _ _ _ _ _ _ Av (dv 3) Ab (fun _ _=>rfl)) (@Aa _ _ _ _ _ (dv 8) (@Aa _ _ _ _ _ (dv 9) Ac (by rfl)) (by rfl)) (by rfl)) (by rfl))) Ac (by rfl)) (by rfl)) (by rfl)) (by rfl))))))))))),?_⟩
   have hR':=hR
   obtain ⟨C,dx,fs,T,e,kn,f,ht⟩:=hR'
   have cn:Iq K C∧NoAttr K C "first":=by
    rcases kn with ⟨_,y⟩|⟨_,y⟩|⟨_,y⟩|⟨_,y⟩
    ·exact Ao er.y_Rule y▸⟨er.l_Rule,er.na_Rule_first⟩
    ·exact Ao er.y_Early y▸⟨er.l_Early,er.na_Early_first⟩
    ·exact Ao er.y_Rested y▸⟨er.l_Rested,er.na_Rested_first⟩
    ·exact Ao er.y_Capped y▸⟨er.l_Capped,er.na_Capped_first⟩
   have isW:∀{H':Hp},Gv H' W n (wU w)→IsD H' W:=fun ⟨kvs,z,_⟩=>.inl ⟨kvs,.inl z⟩
   have isD:∀{H':Hp},G2 H' D n (wV w)→IsD H' D:=fun ⟨kvs,z,_⟩=>.inl ⟨kvs,.inl z⟩
   refine ⟨W,rfl,isW hW,_,hg,r,C,dx,fs,_,rfl,e,cn.1,cn.2,f.fi,fun T1 H1 s1 e1=>?_⟩
   obtain ⟨o1,px,d1,g1,q1⟩:=(hW.up s1).get g.a e1
   refine ⟨o1,d1,?_⟩
   rw [g1]
   refine ⟨W,rfl,isW (hW.up s1),_,s1 _ _ hg,r,C,dx,fs,_,rfl,s1 _ _ e,cn.1,cn.2,f.fi,fun T2 H2 s2 e2=>?_⟩
   have s12:=s1.trans s2
   obtain ⟨o2,py,d2,g2,q2⟩:=(hW.up s12).get g.b e2
   refine ⟨o2,d2,?_⟩
   rw [g2]
   have hg2:=s12 _ _ hg
   refine ⟨D,rfl,isD (hD.up s12),_,hg2,fun T3 H3 s3 e3=>?_⟩
   have s13:=s12.trans s3
   obtain ⟨o3,p3,xs3,d3,g3,q3,n3,r3⟩:=(hD.up s13).get g.a e3
   refine ⟨o3,d3,?_⟩
   rw [g3]
   refine ⟨D,rfl,isD (hD.up s13),_,s13 _ _ hg,fun T4 H4 s4 e4=>?_⟩
   have s14:=s13.trans s4
   obtain ⟨o4,p4,xs4,d4,g4,q4,n4,r4⟩:=(hD.up s14).get g.b e4
   refine ⟨o4,d4,?_⟩
   rw [g4]
   have q3:=s4 _ _ q3
   refine ⟨_,.inl (Ay.of q3),_,.inl (Ay.of q4),_,_,rfl,?_⟩
   rw [List.length_map,List.length_map,n3,n4]
   refine ⟨_,s14 _ _ hg,xs3,q3,fun H5 s5=>⟨_,(s14.trans s5) _ _ hg,xs4,s5 _ _ q4,fun H6 s6=>⟨_,_,rfl,?_⟩⟩⟩
   rw [r3,r4]
   have s46:=s5.trans s6
   have s16:=s14.trans s46
   have hbt:=Akp (ns:=ns) er.y_Rule er.y_Early er.y_Rested er.y_Capped
   obtain ⟨sp2,hm2,hs2⟩:=hbt so C kn
   have q1:=(s2.trans (s3.trans (s4.trans s46))) _ _ q1
   have q2:=(s3.trans (s4.trans s46)) _ _ q2
   refine ⟨r,C,dx,fs,sp2,rfl,s16 _ _ e,hm2,f.bt,wq fi (w g.a),wq fi (w g.b),⟨sa.fq (by decide) q1,sb.fq (by decide) q2⟩,fun q7 H7 s7 f7=>⟨_,(s16.trans s7) _ _ hg,?_⟩⟩
   refine hs2 r H7 st fi one two rows q7 g.h _ _ _ (mnQ (wq fi (w g.a)) (wq fi (w g.b))) (hR.up (s16.trans s7)) tb b (Afu sa sb (by decide) f7) h0 h2 fun q8 H8 s8 e8=>fun S H9 s9 e9=>?_
   have s69:=s7.trans (s8.trans s9)
   exact k _ H9 (s16.trans s69) ⟨S,pg,px,py,q8,rfl,e9,(s16.trans s69) _ _ hg,s69 _ _ q1,s69 _ _ q2,s9 _ _ e8⟩
structure WB (i:Nat)(x:Q2):Prop where
 pos:0<x.2
 ba:Bd (121+16*i) x.1
 bb:Bd (1+15*i) x.2
structure BB (x:Q2):Prop where
 pos:0<x.2
 ba:Bd 120 x.1
 bb:Bd 15 x.2
theorem WB.mono {i j:Nat}{x:Q2}(h:WB i x)(l:i≤j):WB j x:=⟨h.pos,h.ba.mono (by omega),h.bb.mono (by omega)⟩
theorem WB.sq {i n:Nat}{x:Q2}(h:WB i x)(l:121+16*i≤n):Sq n x:=⟨h.pos,h.ba.mono l,h.bb.mono (by omega)⟩
theorem BB.sq {n:Nat}{x:Q2}(h:BB x)(l:120≤n):Sq n x:=⟨h.pos,h.ba.mono l,h.bb.mono (by omega)⟩
theorem Aja {i:Nat}{x b:Q2}(h:WB i x)(hb:BB b):WB (i+1) (plQ x b):=by
 refine ⟨Lc _ (Int.ne_of_gt (Int.mul_pos h.pos hb.pos)),Mp ?_,Mn ?_⟩
 ·exact (Bd.add ((h.ba.mul hb.bb).mono (show 121+16*i+15≤136+16*i by omega)) ((hb.ba.mul h.bb).mono (show 120+(1+15*i)≤136+16*i by omega))).mono (by omega)
 ·exact (h.bb.mul hb.bb).mono (by omega)
theorem Ajv {i:Nat}{x b:Q2}(h:WB i x)(hb:BB b):WB (i+1) (mnQ x b):=by
 refine ⟨Lc _ (Int.ne_of_gt (Int.mul_pos h.pos hb.pos)),Mp ?_,Mn ?_⟩
 ·exact (Bd.sub ((h.ba.mul hb.bb).mono (show 121+16*i+15≤136+16*i by omega)) ((hb.ba.mul h.bb).mono (show 120+(1+15*i)≤136+16*i by omega))).mono (by omega)
 ·exact (h.bb.mul hb.bb).mono (by omega)
theorem Z1 {so st one two p r h:Int}{x:Q2}(s:ShQ x)(b:Nb st one two)(h0:0≤h)(h2:h≤2):BB (btQ so one (Oe so st one two p r) h x):=by
 obtain ⟨_,_,_,_,b5,_⟩:=s.bT (Qj (so:=so) (p:=p) (r:=r) b) h0 h2
 have s0:=s.b0
 have s1:=s.b1
 have u:BB (unQ (Oe so st one two p r) h x):=by
  refine ⟨Lc _ (by show 2*x.2≠0;omega),Mp b5,Mn ?_⟩
  exact Dy (b:=20000) (by unfold unB;omega) (by unfold unB;omega) (A0 rfl)
 unfold btQ
 split
 ·unfold Rb
  split
  ·exact ⟨(by decide:(0:Int)<1),b.bon.mono (by decide),A0 rfl⟩
  ·split
   ·exact ⟨(by decide:(0:Int)<1),(b.bon.mono (by decide)).neg,A0 rfl⟩
   ·exact u
 ·exact u
def Rv (so st fi one two:Int)(rows:List Rw)(w:Wn)(g:Gm):Wn:=fun x=>
 if x=g.b then some ⟨mnQ (wq fi (w g.b)) (I0 so st fi one two rows w g),Uz (w g.b)+1,g.d⟩
 else if x=g.a then some ⟨plQ (wq fi (w g.a)) (I0 so st fi one two rows w g),Uz (w g.a)+1,g.d⟩ else w x
def Nl (so st fi one two:Int)(rows:List Rw):Wn→List Gm→List Sd
 |_,[]=>[]
 |w,g::gs=>⟨g,wq fi (w g.a),wq fi (w g.b),I0 so st fi one two rows w g⟩::Nl so st fi one two rows (Rv so st fi one two rows w g) gs
def K2 (so st fi one two:Int)(rows:List Rw)(w:Wn)(gs:List Gm):Wn:=gs.foldl (Rv so st fi one two rows) w
theorem Sv {so st fi one two:Int}{rows:List Rw}{g:Gm}:∀{gs:List Gm} {w:Wn},Nl so st fi one two rows w (gs++[g])=Nl so st fi one two rows w gs++[⟨g,wq fi (K2 so st fi one two rows w gs g.a),wq fi (K2 so st fi one two rows w gs g.b),I0 so st fi one two rows (K2 so st fi one two rows w gs) g⟩]
 |[],_=>rfl
 |x::gs,w=>by
  show _::Nl so st fi one two rows _ (gs++[g])=_::(Nl so st fi one two rows _ gs++_)
  rw [Sv]
  rfl
theorem Sh {so st fi one two:Int}{rows:List Rw}{g:Gm}{gs:List Gm}{w:Wn}:K2 so st fi one two rows w (gs++[g])=Rv so st fi one two rows (K2 so st fi one two rows w gs) g:=by
 unfold K2
 rw [List.foldl_append]
 rfl
theorem Aie {so st fi one two:Int}{rows:List Rw}{w:Wn}{g:Gm}{i:Nat}(tb:Tb rows)(b:Nb st one two)(h0:0≤g.h)(h2:g.h≤2)(h:∀x,WB i (wq fi (w x)))(x:Str):WB (i+1) (wq fi (Rv so st fi one two rows w g x)):=by
 have bb:BB (I0 so st fi one two rows w g):=Z1 (L6 tb _ _) b h0 h2
 unfold Rv
 split
 ·exact Ajv (h g.b) bb
 ·split
  ·exact Aja (h g.a) bb
  ·exact (h x).mono (by omega)
theorem Gv.put {H H':Hp}{W:Addr}{n:Nat}{u:Str→Option Q2}(h:Gv H W n u){kvs:List (B4×V)}(e:H W=some (.dK kvs)){x y:Str}(ne:x≠y){p1 p2:Addr}{q1 q2:Q2}(s:Sx W H H')(h1:H' p1=some (.tup [.int q1.1,.int q1.2]))(h2:H' p2=some (.tup [.int q2.1,.int q2.2]))
  (e':H' W=some (.dK (Cu (Cu kvs (Sum.inr x) (.ref p1)) (Sum.inr y) (.ref p2)))):Gv H' W (n+2) (fun z=>if z=y then some q2 else if z=x then some q1 else u z):=by
 obtain ⟨kvs',e0,l,a⟩:=h
 rw [e] at e0
 cases e0
 have l1:=Cy kvs (Sum.inr x) (.ref p1)
 have l2:=Cy (Cu kvs (Sum.inr x) (.ref p1)) (Sum.inr y) (.ref p2)
 refine ⟨_,e',by omega,fun z=>?_⟩
 by_cases c:z=y
 ·subst c
  refine .inr ⟨q2,p2,if_pos rfl,?_,h2⟩
  rw [El,if_pos rfl]
 ·by_cases c':z=x
  ·subst c'
   refine .inr ⟨q1,p1,by show (if z=y then _ else if z=z then _ else _)=_;rw [if_neg c,if_pos rfl],?_,h1⟩
   rw [El,if_neg (fun w=>c (Sum.inr.inj w)),El,if_pos rfl]
  ·have vz:B5 (Cu (Cu kvs (Sum.inr x) (.ref p1)) (Sum.inr y) (.ref p2)) (Sum.inr z)=B5 kvs (Sum.inr z):=by
    rw [El,if_neg (fun w=>c (Sum.inr.inj w)),El,if_neg (fun w=>c' (Sum.inr.inj w))]
   rw [vz]
   show ((if z=y then _ else if z=x then _ else u z)=none∧_)∨_
   simp only [if_neg c,if_neg c']
   rcases a z with h|⟨q,p,h3,h4,h5⟩
   ·exact .inl h
   ·exact .inr ⟨q,p,h3,h4,s _ _ (fun w=>by rw [w,e] at h5;cases h5) h5⟩
theorem G2.put {H H':Hp}{D:Addr}{n:Nat}{v:Str→Option (Nat×Int)}(h:G2 H D n v){kvs:List (B4×V)}(e:H D=some (.dK kvs)){x:Str}{p:Addr}{xs:List Int}{d:Int}(s:Sx D H H')(h1:H' p=some (.lst ((xs++[d]).map V.int)))(e':H' D=some (.dK (Cu kvs (Sum.inr x) (.ref p)))) :
  G2 H' D (n+1) (fun z=>if z=x then some (xs.length+1,d) else v z):=by
 obtain ⟨kvs',e0,l,a⟩:=h
 rw [e] at e0
 cases e0
 have l1:=Cy kvs (Sum.inr x) (.ref p)
 refine ⟨_,e',by omega,fun z=>?_⟩
 by_cases c:z=x
 ·subst c
  refine .inr ⟨_,d,p,_,if_pos rfl,?_,h1,by rw [List.length_append];rfl,by simp⟩
  rw [El,if_pos rfl]
 ·rw [El,if_neg (fun w=>c (Sum.inr.inj w))]
  simp only [if_neg c]
  rcases a z with h|⟨m,l,p',xs',h3,h4,h5,h6⟩
  ·exact .inl h
  ·exact .inr ⟨m,l,p',xs',h3,h4,s _ _ (fun w=>by rw [w,e] at h5;cases h5) h5,h6⟩
def Hj (T:Addr)(H:Hp):Hp:=fun b=>if b=T then none else H b
theorem L1 {T:Addr}{H:Hp}:Ah (Hj T H) H:=fun b o e=>by
 unfold Hj at e
 split at e
 ·cases e
 ·exact e
theorem Qt {T:Addr}{H H1 H2:Hp}(s:Ah (Hj T H) H1)(t:∀b o,b≠T→H1 b=some o→H2 b=some o):Ah (Hj T H) H2:=fun b o e=>by
 have e':=e
 unfold Hj at e
 split at e
 ·cases e
 ·rename_i ne
  exact t b o ne (s b o e')
theorem Iz {T b:Addr}{H:Hp}(h:H b=none):Hj T H b=none:=by
 unfold Hj
 split
 ·rfl
 ·exact h
theorem Dg {H H':Hp}{P x:Addr}{pos:Pos}{q:Str}(h:A3 H P pos q)(s:Sx x H H')(hx:(∃zs,H x=some (.lst zs))∨∃kvs,H x=some (.dK kvs)):A3 H' P pos q:=by
 obtain ⟨ps,h1,h2,h3⟩:=h
 have nP:P≠x:=fun z=>by
  rcases hx with ⟨zs,e⟩|⟨kvs,e⟩<;>(rw [←z,h1] at e;cases e)
 refine ⟨ps,s _ _ nP h1,h2,h3.imp id ?_⟩
 rintro ⟨c,e1,e2⟩
 refine ⟨c,e1,s _ _ (fun z=>?_) e2⟩
 rcases hx with ⟨zs,e⟩|⟨kvs,e⟩<;>(rw [←z,e2] at e;cases e)
def pg (gs:List Gm)(p:List Nat):List Gm:=p.filterMap fun i=>gs[i]?
theorem S5 {H:Hp}{xs:List V}{gs:List Gm}(a:At (Bw H) xs gs):∀{p:List Nat},(∀i∈p,i<gs.length)→At (Bw H) (pk xs p) (pg gs p)
 |[],_=>.nil
 | i::p,h=>by
  have hi:=h i List.mem_cons_self
  have r:=S5 a (p:=p) fun j hj=>h j (List.mem_cons_of_mem _ hj)
  have hx:i<xs.length:=by rw [a.len];exact hi
  obtain ⟨g,g1,g2⟩:=a.get (List.getElem?_eq_getElem hx)
  have e1:pk xs (i::p)=xs[i]::pk xs p:=by
   unfold pk
   rw [List.map_cons,List.getD_eq_getElem?_getD,List.getElem?_eq_getElem hx]
   rfl
  have e2:pg gs (i::p)=g::pg gs p:=by
   unfold pg
   rw [List.filterMap_cons,g1]
  rw [e1,e2]
  exact .cons g2 r
theorem Nk {gs:List Gm}{p:List Nat}{g:Gm}(h:g∈pg gs p):g∈gs:=by
 obtain ⟨i,_,e⟩:=List.mem_filterMap.mp h
 exact List.mem_of_getElem? e
theorem Vh {so st fi one two:Int}{rows:List Rw}(tb:Tb rows)(b:Nb st one two)(hf:Bd 40 fi):∀{gs:List Gm},(∀g∈gs,0≤g.h∧g.h≤2)→∀{w:Wn} {i:Nat},(∀x,WB i (wq fi (w x)))→∀x,WB (i+gs.length) (wq fi (K2 so st fi one two rows w gs x))
 |[],_,_,_,h=>h
 |g::gs,hg,w,i,h=>fun x=>by
  have h1:=hg g List.mem_cons_self
  have:=Vh (so:=so) tb b hf (gs:=gs) (fun g hg'=>hg g (List.mem_cons_of_mem _ hg')) (w:=Rv so st fi one two rows w g) (i:=i+1) (Aie tb b h1.1 h1.2 h) x
  rw [List.length_cons,show i+(gs.length+1)=i+1+gs.length by omega]
  exact this
theorem Gv.kt {H H':Hp}{W:Addr}{n:Nat}{u:Str→Option Q2}(h:Gv H W n u)(k:Kt H H')(e:∀o,H W=some o→H' W=some o):Gv H' W n u:=by
 obtain ⟨kvs,e0,l,a⟩:=h
 exact ⟨kvs,e _ e0,l,fun x=>(a x).imp id fun ⟨q,p,h1,h2,h3⟩=>⟨q,p,h1,h2,k _ _ h3⟩⟩
theorem G2.sx {H H':Hp}{D x:Addr}{n:Nat}{v:Str→Option (Nat×Int)}(h:G2 H D n v)(s:Sx x H H')(ne:D≠x)(hx:∀(xs:List Int) (l:Int),xs.getLast? =some l→H x≠some (.lst (xs.map V.int))):G2 H' D n v:=by
 obtain ⟨kvs,e0,l,a⟩:=h
 exact ⟨kvs,s _ _ ne e0,l,fun x=>(a x).imp id fun ⟨m,l,p,xs,h1,h2,h3,h4,h5⟩=>⟨m,l,p,xs,h1,h2,s _ _ (fun z=>hx xs l h5 (z▸h3)) h3,h4,h5⟩⟩
theorem Sx.kt' {x:Addr}{kvs:List (B4×V)}{H H':Hp}(a:Sx x H H')(h:H x=some (.dK kvs)):Kt H H':=fun p xs e=>a p _ (fun z=>by rw [z,h] at e;cases e) e
theorem Sx.n {x:Addr}{N H H':Hp}(a:Sx x H H')(s:Ah N H)(h:N x=none):Ah N H':=fun b o e=>a b o (fun z=>by rw [z,h] at e;cases e) (s b o e)
def V2 (w:Wn)(g:Gm):Nat→Str→Option (Nat×Int)
 |0=>wV w
 |1=>fun z=>if z=g.a then some (Uz (w g.a)+1,g.d) else wV w z
 |_=>fun z=>if z=g.b then some (Uz (w g.b)+1,g.d) else if z=g.a then some (Uz (w g.a)+1,g.d) else wV w z
theorem Afz {so st fi one two:Int}{rows:List Rw}{w:Wn}{g:Gm}:wV (Rv so st fi one two rows w g)=V2 w g 2:=by
 funext z
 unfold wV Rv V2
 by_cases c:z=g.b
 ·simp only [if_pos c]
  rfl
 ·by_cases c':z=g.a
  ·simp only [if_neg c,if_pos c']
   rfl
  ·simp only [if_neg c,if_neg c']
   rfl
theorem Zn {so st fi one two:Int}{rows:List Rw}{w:Wn}{g:Gm}:wU (Rv so st fi one two rows w g)=fun z=>if z=g.b then some (mnQ (wq fi (w g.b)) (I0 so st fi one two rows w g)) else if z=g.a then some (plQ (wq fi (w g.a)) (I0 so st fi one two rows w g)) else wU w z:=by
 funext z
 unfold wU Rv
 by_cases c:z=g.b
 ·simp only [if_pos c]
  rfl
 ·by_cases c':z=g.a
  ·simp only [if_neg c,if_pos c']
   rfl
  ·simp only [if_neg c,if_neg c']
theorem Aip {w:Wn}{x:Str}{v:Option (Nat×Int)}(h:v=wV w x){xs:List Int}(c:(v=none∧xs=[])∨∃m l,v=some (m,l)∧xs.length=m∧xs.getLast? =some l):xs.length=Uz (w x):=by
 subst h
 rcases c with ⟨h1,rfl⟩|⟨m,l,h1,h4,h5⟩
 ·have:w x=none:=Option.map_eq_none_iff.mp h1
  rw [this]
  rfl
 ·obtain ⟨s,hs,e⟩:=Option.map_eq_some_iff.mp h1
  cases e
  rw [hs]
  exact h4
theorem Ai3 {so st fi one two:Int}{rows:List Rw}{w:Wn}{g:Gm}{k:Nat}(h:∀x,Uz (w x)≤k)(x:Str):Uz (Rv so st fi one two rows w g x)≤k+1:=by
 unfold Rv
 split
 ·exact Nat.succ_le_succ (h g.b)
 ·split
  ·exact Nat.succ_le_succ (h g.a)
  ·exact Nat.le_succ_of_le (h x)
theorem Afa {so st fi one two:Int}{rows:List Rw}:∀{gs:List Gm} {w:Wn} {k:Nat},(∀x,Uz (w x)≤k)→∀x,Uz (K2 so st fi one two rows w gs x)≤k+gs.length
 |[],_,_,h=>h
 |g::gs,w,k,h=>fun x=>by
  have:=Afa (so:=so) (st:=st) (fi:=fi) (one:=one) (two:=two) (rows:=rows) (gs:=gs) (w:=Rv so st fi one two rows w g) (k:=k+1) (Ai3 h) x
  rw [List.length_cons,show k+(gs.length+1)=k+1+gs.length by omega]
  exact this
def Th (K:PySem.W.Frag)(ns:List Int):Sp:=fun vs H Q _=>match vs with
 |[.ref r,.ref L]=>∃(so st fi one two:Int) (rows:List Rw) (gs:List Gm) (xs:List V),(K8 K (Hj (Bx K) H) r so st fi one two rows∧Tb rows∧Nb st one two∧Bd 40 fi∧Ay K (Hj (Bx K) H) L xs∧At (Bw (Hj (Bx K) H)) xs gs∧gs.length≤30∧(∀g∈gs,(0≤g.h∧g.h≤2)∧g.a≠g.b)∧A3 H (Bx K) Ce Gj) ∧
  ∀D vs p H',Xt (Bx K) H H'→H D=none→H' D=some (.lst vs)→A3 H' (Bx K) Ce Gj→Fx (dk gs) gs.length p→At (Q8 H') vs (Nl so st fi one two rows (fun _=>none) (pg gs p))→Q (.ref D) H'
 |_=>False
theorem Es:Al ["rule","games","steps","worths","days","played","step","name"] ["rule","games"] (Af Qp):=⟨rfl,rfl,rfl,by decide +kernel,rfl,by decide +kernel,by decide +kernel⟩
theorem Zx (d:B8 K mg "trail" Qp ["rule","games"])(er:Bg K mg c_Capped c_Early c_Ledger c_NoTable c_Rested c_Rule)   (c_in_order:Bm P w K mg base "in_order" ["games"] 3 (Ex K ns))(c_move:Bm P w K mg base "move" ["worths","step"] 4 (Rj K ns))(c_next_step:Bm P w K mg base "next_step" ["rule","worths","days","played"] 8 (Ix K ns)):Bm P w K mg base "trail" ["rule","games"] 9 (Th K ns):=by
 refine d.cal (k:=8) Es (fun vs H Q E h=>?_) (fun f cdv A outer s H vs Q E hr h=>?_)
 ·match vs,h with
  |[.ref r,.ref L],_=>rfl
 ·match vs,h with
  | [.ref r,.ref L],hq0=>
   obtain ⟨so,st,fi,one,two,rows,gs,xs,⟨hR,tb,b,hf,hL,al,l30,ok,tk⟩,k⟩:=hq0
   refine ⟨_,(@Ae _ _ _ _ _ (@Au _ _ (2) _ _ _ _ Es.nd rfl (by trivial) (@Do _ _ _ _ Ac) (by rfl) (by trivial)) (@Ae _ _ _ _ _ (@Au _ _ (3) _ _ _ _ Es.nd rfl (by trivial) Gr (by rfl) (by trivial)) (@Ae _ _ _ _ _ (@Au _ _ (4) _ _ _ _ Es.nd rfl (by trivial) Gr (by rfl) (by trivial)) (@Ae _ _ _ _ _ (@G7 _ _ _ _ _ _ _ _ PassesOwn.never rfl (@Dq _ _ _ _ (@An _ _ _ _ _ _ _ _ _ _ _ c_in_order hr (by decide) (by rfl) (@Aa _ _ _ _ _ (dv 1) Ac (by rfl)) (by decide) (by rfl) (by rfl))) (@A6 _ _ (5) _ Es.nd rfl (by trivial) (by trivial)) (@Ae _ _ _ _ _ (@Au _ _ (6) _ _ _ _ Es.nd rfl (by trivial) (@An _ _ _ _ _ _ _ _ _ _ _ c_next_step hr (by decide) (by rfl) (@Aa _ _ _ _ _ (dv 0) (@Aa _ _ _ _ _ (dv 3) (@Aa _ _ _ _ _ (dv 4) (@Aa _ _ _ _ _ (dv 5) Ac (by rfl)) (by rfl)) (by rfl)) (by rfl)) (by decide) (by rfl) (by rfl)) (by rfl) (by trivial)) (@Ae _ _ _ _ _ (@Bs _ _ _ _ (@G4 _ _ _ _ _ _ _ _ _ _ _ _ PySem.F.plainAttrs_list PySem.F.slot_list_append PySem.F.type_list_append Dm (dv 2) (@Aa _ _ _ _ _ (dv 6) Ac (by rfl)) (by rfl) (by rfl) (by rfl) (by rfl) (by rfl)) (by rfl)) (@Ae _ _ _ _ _ (@Bs _ _ _ _ (@An _ _ _ _ _ _ _ _ _ _ _ c_move hr (by decide) (by rfl) (@Aa _ _ _ _ _ (dv 3) (@Aa _ _ _ _ _ (dv 6) Ac (by rfl)) (by rfl)) (by decide) (by rfl) (by rfl)) (by rfl)) (@Ag _ _ _ (@G7 _ _ _ _ _ _ _ _ PassesOwn.never rfl (@Ahg _ _ _ _ (@C2 _ _ _ _ _ _ _ _ _ _ Vm (dv 5) (Cj Ab) (Cj Ab))) (@A6 _ _ (7) _ Es.nd rfl (by trivial) (by trivial)) (@Ag _ _ _ (@Je _ _ _ _ _ _ _ _ _ (@u1 _ _ hr.units) (dv 4) (dv 7) (@Aj _ _ _ _ _ _ _ _ Qf (@Gx _ _ _ _ _ _ _ _ _ (@u1 _ _ hr.units) (dv 4) (dv 7) (@Do _ _ _ _ Ac) ⟨rfl,rfl,rfl,rfl⟩) (@Iw _ _ _ _ (@Aa _ _ _ _ _ (@Ap _ _ _ _ _ _ _ Av (dv 5) Ab (fun _ _=>rfl)) Ac (by rfl)))) rfl)) (by intro _;rfl)))))) (by intro _;rfl)) (@Ag _ _ _ (@Aq _ _ _ _ (dv 2))))))),?_⟩
   refine ⟨by decide,fun S hS=>fun W hW=>fun D hD=>?_⟩
   have s1:Ah H (upd H S (.lst [])):=Am hS
   have s2:=s1.trans (Am (o:=.dK []) hW)
   have s3:=s2.trans (Am (o:=.dK []) hD)
   have nWS:W≠S:=fun z=>by rw [z,Ad] at hW;cases hW
   have nDS:D≠S:=fun z=>by rw [z,Ak (Ne.symm nWS),Ad] at hD;cases hD
   have nDW:D≠W:=fun z=>by rw [z,Ad] at hD;cases hD
   have eS:upd (upd (upd H S (.lst [])) W (.dK [])) D (.dK []) S=some (.lst []):=by rw [Ak (Ne.symm nDS),Ak (Ne.symm nWS),Ad]
   have eW:upd (upd (upd H S (.lst [])) W (.dK [])) D (.dK []) W=some (.dK []):=by rw [Ak (Ne.symm nDW),Ad]
   have eD:upd (upd (upd H S (.lst [])) W (.dK [])) D (.dK []) D=some (.dK []):=Ad
   have hW0:H W=none:=Bl s1 hW
   have hD0:H D=none:=Bl s2 hD
   generalize upd (upd (upd H S (.lst [])) W (.dK [])) D (.dK [])=H3 at s3 eS eW eD
   clear s1 s2 hW hD
   obtain ⟨N,hN⟩:∃N,N=Hj (Bx K) H:=⟨_,rfl⟩
   have sN:Ah N H:=hN▸L1
   have sN3:=sN.trans s3
   have nS:N S=none:=hN▸Iz hS
   have nW:N W=none:=hN▸Iz hW0
   have nD:N D=none:=hN▸Iz hD0
   rw [←hN] at hR hL al
   refine ⟨gs,xs,⟨sN3.seq hL,al.imp fun v g r=>B6 v g _ _ (A7 sN3) r,by omega,tk.up s3⟩,fun Dl H4 p sm nDl eDl tk4 stb=>?_⟩
   obtain ⟨ps,tt,_⟩:=tk.up s3
   have ne4:∀{b:Addr} {o:HO},H3 b=some o→(∀ps,o≠.tbl ps)→H4 b=some o:=fun e c=>sm _ _ (fun z=>c ps (by rw [z,tt] at e;exact (Option.some.inj e).symm)) e
   have sN4:Ah N H4:=by
    rw [hN]
    exact Qt (hN▸sN3) sm
   have eS4:=ne4 eS (fun _=>nofun)
   have eW4:=ne4 eW (fun _=>nofun)
   have eD4:=ne4 eD (fun _=>nofun)
   have dS:Dl≠S:=fun z=>by rw [z,eS] at nDl;cases nDl
   have dW:Dl≠W:=fun z=>by rw [z,eW] at nDl;cases nDl
   have dD:Dl≠D:=fun z=>by rw [z,eD] at nDl;cases nDl
   have aG:At (Bw N) (pk xs p) (pg gs p):=S5 al fun i hi=>stb.2.1 i hi
   have okG:∀g∈pg gs p,(0≤g.h∧g.h≤2)∧g.a≠g.b:=fun g hg=>ok g (Nk hg)
   have lG:(pg gs p).length≤30:=by
    have:=aG.len
    have z:(pk xs p).length=p.length:=by unfold pk;rw [List.length_map]
    have:=stb.1
    omega
   generalize hG:pg gs p=G at aG okG lG
   have w0:∀x,WB 0 (wq fi ((fun _=>none:Wn) x)):=fun x=>⟨(by decide:(0:Int)<1),hf.mono (by decide),A0 rfl⟩
   refine ⟨Dl,rfl,⟨_,Ay.of eDl⟩,Lj (K:=K) (a:=Dl) (xs:=pk xs p) (fun i σ H'=>∃(vs:List V) (o5 o6 o7:Option V),σ=[some (.ref r),some (.ref L),some (.ref S),some (.ref W),some (.ref D),o5,o6,o7]∧Ah N H'∧A3 H' (Bx K) Ce Gj∧H' Dl=some (.lst (pk xs p))∧H' S=some (.lst vs)∧At (Q8 H') vs (Nl so st fi one two rows (fun _=>none) (G.take i))∧Gv H' W (2*i) (wU (K2 so st fi one two rows (fun _=>none) (G.take i)))∧G2 H' D (2*i) (wV (K2 so st fi one two rows (fun _=>none) (G.take i)))) ?_ (fun i σ H' _ ⟨_,_,_,_,_,_,_,e,_⟩=>Ay.of e) ?_ ?_⟩
   ·exact ⟨[],none,none,none,rfl,sN4,tk4,eDl,eS4,.nil,⟨[],eW4,Nat.zero_le _,fun x=>.inl ⟨rfl,rfl⟩⟩,⟨[],eD4,Nat.zero_le _,fun x=>.inl ⟨rfl,rfl⟩⟩⟩
   ·rintro i v σ H5 hv ⟨vs,o5,o6,o7,rfl,sN5,tk5,eDl5,eS5,aS5,ws,dy⟩
    obtain ⟨g,hg,pg',rfl,hpg⟩:=aG.get hv
    obtain ⟨⟨h0,h2⟩,ab⟩:=okG g (List.mem_of_getElem? hg)
    have il:i<G.length:=(List.getElem?_eq_some_iff.mp hg).1
    have tk':G.take (i+1)=G.take i++[g]:=by rw [List.take_add_one,hg];rfl
    have wb:∀x,WB i (wq fi (K2 so st fi one two rows (fun _=>none) (G.take i) x)):=fun x=>by
     have:=Vh (so:=so) tb b hf (gs:=G.take i) (fun g hg=>(okG g (List.mem_of_mem_take hg)).1) w0 x
     rw [List.length_take,Nat.zero_add,Nat.min_eq_left (Nat.le_of_lt il)] at this
     exact this
    have wn:∀x,Uz (K2 so st fi one two rows (fun _=>none) (G.take i) x)≤30:=fun x=>by
     have:=Afa (so:=so) (st:=st) (fi:=fi) (one:=one) (two:=two) (rows:=rows) (gs:=G.take i) (w:=fun _=>none) (k:=0) (fun _=>Nat.le_refl _) x
     rw [List.length_take] at this
     omega
    rw [tk',Sv,Sh]
    generalize K2 so st fi one two rows (fun _=>none) (G.take i)=w at ws dy wb wn
    refine ⟨so,st,fi,one,two,rows,w,2*i,g,⟨hR.up sN5,tb,b,ws,dy,sN5 _ _ hpg,h0,h2,(wb _).sq (by omega),(wb _).sq (by omega)⟩,fun sv H6 s6 sd=>?_⟩
    have eS6:=s6 _ _ eS5
    have lvs:vs.length≤30:=by
     have:=aS5.len
     have z:∀(w:Wn) (l:List Gm),(Nl so st fi one two rows w l).length=l.length:=fun w l=>by
      induction l generalizing w with
      |nil=>rfl
      |cons g l ih=>show (Nl so st fi one two rows _ l).length+1=_;rw [ih];rfl
     rw [this,z,List.length_take]
     omega
    refine ⟨.inl ⟨rfl,_,Ay.of eS6⟩,S,vs,sv,rfl,rfl,eS6,Nat.lt_of_le_of_lt lvs (by decide),?_⟩
    have ws6:=ws.up s6
    have dy6:=dy.up s6
    have noS:∀(xs:List Int) (l:Int),xs.getLast? =some l→H6 S≠some (.lst (xs.map V.int)):=fun xs l hl z=>by
     rw [eS6] at z
     cases z
     cases xs with
     |nil=>cases hl
     |cons y xs=>
      obtain ⟨_,_,t,_,_,_,_,e,_⟩:=aS5.get (show ((y::xs).map V.int)[0]? =some (.int y) from rfl)
      cases e
    have x7:Sx S H6 (upd H6 S (.lst (vs++[sv]))):=Sx.upd
    have kt7:Kt H6 (upd H6 S (.lst (vs++[sv]))):=Go eS6
    have sN7:Ah N (upd H6 S (.lst (vs++[sv]))):=Cb (sN5.trans s6) nS
    have tk7:A3 (upd H6 S (.lst (vs++[sv]))) (Bx K) Ce Gj:=Dg (tk5.up s6) x7 (.inl ⟨_,eS6⟩)
    have eDl7:upd H6 S (.lst (vs++[sv])) Dl=some (.lst (pk xs p)):=x7 _ _ dS (s6 _ _ eDl5)
    have eS7:upd H6 S (.lst (vs++[sv])) S=some (.lst (vs++[sv])):=Ad
    have aS7:At (Q8 (upd H6 S (.lst (vs++[sv])))) (vs++[sv]) (Nl so st fi one two rows (fun _=>none) (G.take i)++[⟨g,wq fi (w g.a),wq fi (w g.b),I0 so st fi one two rows w g⟩]):=(aS5.imp fun v g r=>Ma v g _ _ ((A7 s6).trans kt7) r).snoc (Ma _ _ _ _ kt7 sd)
    have ws7:=ws6.kt kt7 fun o e=>x7 _ _ nWS e
    have dy7:=dy6.sx x7 nDS noS
    have sd7:=Ma _ _ _ _ kt7 sd
    generalize upd H6 S (.lst (vs++[sv]))=H7 at sN7 tk7 eDl7 eS7 aS7 ws7 dy7 sd7
    clear noS
    have bb:BB (I0 so st fi one two rows w g):=Z1 (L6 tb _ _) b h0 h2
    have ws7':=ws7
    obtain ⟨kvs,eW7,lk,_⟩:=ws7'
    refine ⟨kvs,⟨g,wq fi (w g.a),wq fi (w g.b),I0 so st fi one two rows w g⟩,⟨eW7,by omega,sd7,(wb _).sq (by omega),(wb _).sq (by omega),bb.sq (by decide)⟩,fun p1 p2 H8 s8 m1 m2 q1 q2 eW8=>?_⟩
    have ws8:=ws7.put eW7 ab s8 q1 q2 eW8
    have kt8:=s8.kt' eW7
    have sN8:=s8.n sN7 nW
    have tk8:=Dg tk7 s8 (.inr ⟨_,eW7⟩)
    have eDl8:=s8 _ _ dW eDl7
    have eS8:=s8 _ _ (Ne.symm nWS) eS7
    have aS8:=aS7.imp fun v g r=>Ma v g _ _ kt8 r
    have dy8:=dy7.sx s8 nDW (fun xs l _ z=>by rw [eW7] at z;cases z)
    clear kt8 s8
    refine ⟨_,rfl,_,rfl,pg',_,rfl,E4.of (sN8 _ _ hpg),(by show ¬(HT.sIx 5 0 (some 1)=0∧HT.sIx 5 5 (some 3)=5);decide),fun t ht=>?_⟩
    rw [show Hd [V.int g.d,V.str g.a,V.str g.b,V.int g.h,V.int g.s] (some 1) (some 3)=[V.str g.a,V.str g.b] from rfl]
    have s9:Ah H8 (upd H8 t (.tup [.str g.a,.str g.b])):=Am ht
    have e9:upd H8 t (.tup [.str g.a,.str g.b]) t=some (.tup [.str g.a,.str g.b]):=Ad
    have ws8':Gv H8 W (2*i+2) (wU (Rv so st fi one two rows w g)):=by
     rw [Zn]
     exact ws8
    refine ⟨t,rfl,⟨_,E4.of e9⟩,Ac1 (K:=K) (a:=t) (xs:=[.str g.a,.str g.b]) (fun j σ H'=>∃o7:Option V,σ=[some (.ref r),some (.ref L),some (.ref S),some (.ref W),some (.ref D),some (.ref pg'),some sv,o7]∧Ah N H'∧A3 H' (Bx K) Ce Gj∧H' t=some (.tup [.str g.a,.str g.b])∧H' Dl=some (.lst (pk xs p))∧H' S=some (.lst (vs++[sv]))∧At (Q8 H') (vs++[sv]) (Nl so st fi one two rows (fun _=>none) (G.take i)++[⟨g,wq fi (w g.a),wq fi (w g.b),I0 so st fi one two rows w g⟩])∧Gv H' W (2*i+2) (wU (Rv so st fi one two rows w g))∧G2 H' D (2*i+j) (V2 w g j)) ⟨o7,rfl,sN8.trans s9,tk8.up s9,e9,s9 _ _ eDl8,s9 _ _ eS8,aS8.imp fun v g r=>Ma v g _ _ (A7 s9) r,ws8'.up s9,dy8.up s9⟩ (fun j σ H' _ ⟨_,_,_,_,e,_⟩=>E4.of e) ?_ ?_⟩
    ·rintro j u σ H10 hu ⟨o7',rfl,sNa,tka,ea,eDla,eSa,aSa,wsa,dya⟩
     obtain ⟨x,rfl,jx⟩:∃x,u=.str x∧((j=0∧x=g.a)∨(j=1∧x=g.b)):=by
      match j,hu with
      |0,hu=>cases hu;exact ⟨_,rfl,.inl ⟨rfl,rfl⟩⟩
      |1,hu=>cases hu;exact ⟨_,rfl,.inr ⟨rfl,rfl⟩⟩
     have dya':=dya
     obtain ⟨kva,eDa,lka,_⟩:=dya'
     refine ⟨D,rfl,.inl ⟨_,.inl eDa⟩,by decide,fun T0 hT0=>?_⟩
     have sb:Ah H10 (upd H10 T0 (.lst [])):=Am hT0
     have eb:upd H10 T0 (.lst []) T0=some (.lst []):=Ad
     generalize upd H10 T0 (.lst [])=H11 at sb eb
     obtain ⟨o,pl,ys,dg,gd,ey,cy⟩:=(dya.up sb).get' x eb
     refine ⟨o,dg,?_⟩
     rw [gd]
     refine ⟨_,(sNa.trans sb) _ _ hpg,fun Lq H12 sc ec=>?_⟩
     have ly:ys.length=Uz (w x):=by
      refine Aip ?_ cy
      rcases jx with ⟨rfl,rfl⟩|⟨rfl,rfl⟩
      ·rfl
      ·exact if_neg (Ne.symm ab)
     have y60:ys.length≤900:=by
      have:=wn x
      omega
     refine ⟨_,_,sc _ _ ey,ec,by rw [List.length_map];show ys.length+1≤1000;omega,fun pn H13 sd' ed=>?_⟩
     have ed:H13 pn=some (.lst ((ys++[g.d]).map V.int)):=by
      rw [ed,List.map_append]
      rfl
     have sbd:=sb.trans (sc.trans sd')
     have eDd:=sbd _ _ eDa
     refine ⟨D,_,rfl,Q7.k (k:=Sum.inr x) eDd ?_,?_⟩
     ·exact Nat.lt_of_le_of_lt (show _≤100 by omega) (by decide)
     have xe:Sx D H13 (upd H13 D (.dK (Cu kva (Sum.inr x) (.ref pn)))):=Sx.upd
     have npn:pn≠D:=fun z=>by rw [z,eDd] at ed;cases ed
     have kte:=xe.kt' eDd
     have dye:=(dya.up sbd).put eDd xe (by rw [Ak npn];exact ed) Ad
     refine ⟨_,rfl,xe.n (sNa.trans sbd) nD,Dg (tka.up sbd) xe (.inr ⟨_,eDd⟩),kte _ _ (sbd _ _ ea),xe _ _ dD (sbd _ _ eDla),xe _ _ (Ne.symm nDS) (sbd _ _ eSa),aSa.imp fun v g r=>Ma v g _ _ ((A7 sbd).trans kte) r,(wsa.up sbd).kt kte fun o e=>xe _ _ (Ne.symm nDW) e,?_⟩
     rw [ly] at dye
     rcases jx with ⟨rfl,rfl⟩|⟨rfl,rfl⟩
     ·exact dye
     ·exact dye
    ·rintro σ H10 ⟨o7',rfl,sNa,tka,ea,eDla,eSa,aSa,wsa,dya⟩
     refine ⟨vs++[sv],_,_,_,rfl,sNa,tka,eDla,eSa,aSa,wsa,?_⟩
     rw [Afz]
     exact dya
   ·rintro σ H5 ⟨vs,o5,o6,o7,rfl,sN5,tk5,eDl5,eS5,aS5,ws,dy⟩
    rw [aG.len,List.take_length,←hG] at aS5
    exact k S vs p H5 (fun b o ne e=>sN5 b o (by rw [hN];unfold Hj;rw [if_neg ne];exact e)) hS eS5 tk5 stb aS5
theorem Vd {T b:Addr}{H:Hp}{o:HO}{ps:Array Value}(t:H T=some (.tbl ps))(e:H b=some o)(n:∀ps,o≠.tbl ps):Hj T H b=some o:=by
 unfold Hj
 rw [if_neg fun z=>?_]
 ·exact e
 ·rw [z,t] at e
  exact n ps (Option.some.inj e).symm
theorem Aa9 {T:Addr}{H:Hp}{ps:Array Value}(t:H T=some (.tbl ps)):Kt H (Hj T H):=fun p xs e=>Vd t e fun _=>nofun
theorem Ww {T:Addr}{H H':Hp}(s:Ah (Hj T H) H'):Ah (Hj T H) (Hj T H'):=fun b o e=>by
 have e':=s b o e
 unfold Hj at e ⊢
 split at e
 ·cases e
 ·rename_i ne
  rw [if_neg ne]
  exact e'
theorem Akx {ys:List V}(l:ys.length=4)(h:∀y∈ys,∃c:Int,y=.int c∧0≤c∧c≤1000000):∃a b c d:Int,ys=[.int a,.int b,.int c,.int d]∧(0≤a∧a≤1000000)∧(0≤b∧b≤1000000)∧(0≤c∧c≤1000000)∧0≤d∧d≤1000000:=by
 match ys,l with
 |[x,y,z,w],_=>
  obtain ⟨a,rfl,a1⟩:=h x (by simp)
  obtain ⟨b,rfl,b1⟩:=h y (by simp)
  obtain ⟨c,rfl,c1⟩:=h z (by simp)
  obtain ⟨d,rfl,d1⟩:=h w (by simp)
  exact ⟨a,b,c,d,rfl,a1,b1,c1,d1⟩
structure Anh (nm:List Str)(gs:List Gm):Prop where
 ok:∀g∈gs,(0≤g.h∧g.h≤2)∧g.a≠g.b
 mem:∀g∈gs,g.a∈nm∧g.b∈nm
theorem Vz {so st fi one two:Int}{rows:List Rw}{m:List Gm}:∀{l:List Gm} {w:Wn},Nl so st fi one two rows w (l++m)=Nl so st fi one two rows w l++Nl so st fi one two rows (K2 so st fi one two rows w l) m
 |[],_=>rfl
 |x::l,w=>by
  show _::Nl so st fi one two rows _ (l++m)=_::(Nl so st fi one two rows _ l++_)
  rw [Vz]
  rfl
theorem Px {so st fi one two:Int}{rows:List Rw}:∀{l:List Gm} {w:Wn},(Nl so st fi one two rows w l).length=l.length
 |[],_=>rfl
 |x::l,w=>congrArg (· + 1) Px
theorem Acq {so st fi one two:Int}{rows:List Rw}{w:Wn}{G:List Gm}{i:Nat}{g:Gm}(h:G[i]? =some g):(Nl so st fi one two rows w G)[i]? =some ⟨g,wq fi (K2 so st fi one two rows w (G.take i) g.a),wq fi (K2 so st fi one two rows w (G.take i) g.b),I0 so st fi one two rows (K2 so st fi one two rows w (G.take i)) g⟩:=by
 obtain ⟨hi,rfl⟩:=List.getElem?_eq_some_iff.mp h
 have e:G=G.take i++G[i]::G.drop (i+1):=by
  rw [←List.drop_eq_getElem_cons hi,List.take_append_drop]
 have l:(Nl so st fi one two rows w (G.take i)).length=i:=by rw [Px,List.length_take];omega
 have z:Nl so st fi one two rows w G=Nl so st fi one two rows w (G.take i)++Nl so st fi one two rows (K2 so st fi one two rows w (G.take i)) (G[i]::G.drop (i+1)):=by
  rw [←Vz,←e]
 rw [z,List.getElem?_append_right (by omega),l,Nat.sub_self]
 rfl
theorem Aii (p:List Nat):pg [] p=[]:=by
 unfold pg
 induction p with
 |nil=>rfl
 |cons i p ih=>rw [List.filterMap_cons];exact ih
def Rx (H:Hp)(v:V)(x:Str×Q2):Prop:=∃t p,v=.ref t∧H t=some (.tup [.str x.1,.ref p])∧H p=some (.tup [.int x.2.1,.int x.2.2])
theorem Abb (v:V)(x:Str×Q2)(H H':Hp)(k:Kt H H')(h:Rx H v x):Rx H' v x:=by
 obtain ⟨t,p,e,h0,h1⟩:=h
 exact ⟨t,p,e,k _ _ h0,k _ _ h1⟩
def Alr (H:Hp)(W:Addr)(l:List Str):Prop:=∃kvs,H W=some (.dK kvs)∧kvs.map (·.1)=l.map Sum.inr∧l.Nodup
def pls (gs:List Gm)(x:Str):Prop:=∃g∈gs,x=g.a∨x=g.b
theorem Aa6 {gs:List Gm}{g:Gm}{x:Str}:pls (gs++[g]) x↔(pls gs x∨x=g.a)∨x=g.b:=by
 constructor
 ·rintro ⟨g',h,c⟩
  rcases List.mem_append.mp h with h|h
  ·exact .inl (.inl ⟨g',h,c⟩)
  ·cases List.mem_singleton.mp h
   exact c.imp .inr id
 ·rintro ((⟨g',h,c⟩|h)|h)
  ·exact ⟨g',List.mem_append_left _ h,c⟩
  ·exact ⟨g,List.mem_append_right _ (List.mem_singleton.mpr rfl),.inl h⟩
  ·exact ⟨g,List.mem_append_right _ (List.mem_singleton.mpr rfl),.inr h⟩
theorem Lf {gs:List Gm}{p:List Nat}(h:Fx (dk gs) gs.length p){g:Gm}:g∈pg gs p↔g∈gs:=by
 refine ⟨Nk,fun hg=>?_⟩
 obtain ⟨i,hi,rfl⟩:=List.getElem_of_mem hg
 refine List.mem_filterMap.mpr ⟨i,((Fu h).mem_iff).mpr (List.mem_range.mpr hi),List.getElem?_eq_getElem hi⟩
theorem Td {so st fi one two:Int}{rows:List Rw}{w:Wn}{g:Gm}{x:Str}(h:(w x).isSome∨x=g.a∨x=g.b):(Rv so st fi one two rows w g x).isSome:=by
 unfold Rv
 by_cases c:x=g.b
 ·rw [if_pos c]
  rfl
 ·rw [if_neg c]
  by_cases c':x=g.a
  ·rw [if_pos c']
   rfl
  ·rw [if_neg c']
   rcases h with h|h|h
   ·exact h
   ·exact absurd h c'
   ·exact absurd h c
theorem R9 {so st fi one two:Int}{rows:List Rw}:∀{gs:List Gm} {w:Wn} {x:Str},(w x).isSome∨pls gs x→(K2 so st fi one two rows w gs x).isSome
 |[],_,_,h=>by
  rcases h with h|⟨g,h,_⟩
  ·exact h
  ·cases h
 | g::gs,w,x,h=>by
  refine R9 (gs:=gs) (w:=Rv so st fi one two rows w g) ?_
  rcases h with h|⟨g',h,c⟩
  ·exact .inl (Td (.inl h))
  ·rcases List.mem_cons.mp h with rfl|h
   ·exact .inl (Td (.inr c))
   ·exact .inr ⟨g',h,c⟩
theorem Wb {H:Hp}{f:Str→Q2}:∀{l:List Str} {ys:List V},At (fun x y=>Rx H y (x,f x)) l ys→At (Rx H) ys (l.map fun x=>(x,f x))
 |_,_,.nil=>.nil
 |_,_,.cons h t=>.cons h (Wb t)
theorem Pg:∀(l:List Str),At (fun v m=>v=V.str m) (l.map V.str) l
 |[]=>.nil
 |_::l=>.cons rfl (Pg l)
def Ia (K:PySem.W.Frag)(ns:List Int):Sp:=fun vs H Q _=>match vs with
 |[.ref r,.ref L]=>∃(so st fi one two:Int) (rows:List Rw) (gs:List Gm) (xs:List V),(K8 K (Hj (Bx K) H) r so st fi one two rows∧Tb rows∧Nb st one two∧Bd 40 fi∧Ay K (Hj (Bx K) H) L xs∧At (Bw (Hj (Bx K) H)) xs gs∧gs.length≤30∧(∀g∈gs,(0≤g.h∧g.h≤2)∧g.a≠g.b)∧A3 H (Bx K) Ce Gj) ∧
  ∀D vs p H',Xt (Bx K) H H'→H D=none→H' D=some (.lst vs)→A3 H' (Bx K) Ce Gj→Fx (dk gs) gs.length p→At (Rx H') vs ((plr gs).map fun x=>(x,wq fi (K2 so st fi one two rows (fun _=>none) (pg gs p) x)))→Q (.ref D) H'
 |_=>False
theorem Hr:Al ["rule","games","worths","step"] ["rule","games"] (Af Kq):=⟨rfl,rfl,rfl,by decide +kernel,rfl,by decide +kernel,by decide +kernel⟩
theorem Vo (d:B8 K mg "running" Kq ["rule","games"])(er:Bg K mg c_Capped c_Early c_Ledger c_NoTable c_Rested c_Rule)(n_sorted:mg "sorted"=none)  (c_trail:Bm P w K mg base "trail" ["rule","games"] 9 (Th K ns))(c_move:Bm P w K mg base "move" ["worths","step"] 4 (Rj K ns)):Bm P w K mg base "running" ["rule","games"] 10 (Ia K ns):=by
 refine d.cal (k:=9) Hr (fun vs H Q E h=>?_) (fun f cdv A outer s H vs Q E hr h=>?_)
 ·match vs,h with
  |[.ref r,.ref L],_=>rfl
 ·match vs,h with
  | [.ref r,.ref L],hq0=>
   obtain ⟨so,st,fi,one,two,rows,gs,xs,⟨hR,tb,b,hf,hL,al,l30,ok,tk⟩,k⟩:=hq0
   refine ⟨_,(@Ae _ _ _ _ _ (@Au _ _ (2) _ _ _ _ Hr.nd rfl (by trivial) Gr (by rfl) (by trivial)) (@Ae _ _ _ _ _ (@G7 _ _ _ _ _ _ _ _ PassesOwn.never rfl (@Dq _ _ _ _ (@An _ _ _ _ _ _ _ _ _ _ _ c_trail hr (by decide) (by rfl) (@Aa _ _ _ _ _ (dv 0) (@Aa _ _ _ _ _ (dv 1) Ac (by rfl)) (by rfl)) (by decide) (by rfl) (by rfl))) (@A6 _ _ (3) _ Hr.nd rfl (by trivial) (by trivial)) (@Ag _ _ _ (@Bs _ _ _ _ (@An _ _ _ _ _ _ _ _ _ _ _ c_move hr (by decide) (by rfl) (@Aa _ _ _ _ _ (dv 2) (@Aa _ _ _ _ _ (dv 3) Ac (by rfl)) (by rfl)) (by decide) (by rfl) (by rfl)) (by rfl))) (by intro _;rfl)) (@Ag _ _ _ (@Aq _ _ _ _ (@Fy _ _ _ _ _ _ _ _ _ _ ["name"] ["worths"] [2] rfl (@Dq _ _ _ _ (@Aw _ _ _ _ _ _ _ _ _ Aeq (by rfl) n_sorted (by decide +kernel) (@Aa _ _ _ _ _ (dv 2) Ac (by rfl)) (by decide) (by decide) (by rfl) (by rfl))) (fun C s H fp=>(@A6 _ _ (0) _ (show List.Nodup [("name":Str),("worths":Str)] by decide +kernel) rfl (by trivial) (by trivial))) (fun C s H fp=>(@Ca _ _ _ _ _ (@Aa _ _ _ _ _ (dv 0) (@Aa _ _ _ _ _ (@Ha _ _ _ _ _ _ (@u1 _ _ hr.units) (dv 1) (dv 0) (fun _ _=>rfl)) Ac (by rfl)) (by rfl)))) rfl rfl (by decide +kernel) (by decide +kernel) (by rfl) ⟨rfl,True.intro⟩ ⟨⟨rfl,rfl,rfl,rfl⟩,True.intro⟩ (by intro _;rfl)))))),?_⟩
   refine fun W hW=>?_
   have s1:Ah H (upd H W (.dK [])):=Am hW
   have eW:upd H W (.dK []) W=some (.dK []):=Ad
   generalize upd H W (.dK [])=H1 at s1 eW
   obtain ⟨N,hN⟩:∃N,N=Hj (Bx K) H:=⟨_,rfl⟩
   have sN:Ah N H:=hN▸L1
   have sN1:=sN.trans s1
   have nW:N W=none:=hN▸Iz hW
   rw [←hN] at hR hL al
   have tk1:=tk.up s1
   obtain ⟨ps,tt,_⟩:=id tk1
   have sO:Ah N (Hj (Bx K) H1):=by
    rw [hN] at sN1 ⊢
    exact Ww sN1
   refine ⟨so,st,fi,one,two,rows,gs,xs,⟨hR.up sO,tb,b,hf,sO.seq hL,al.imp fun v g r=>B6 v g _ _ (A7 sO) r,l30,ok,tk1⟩,fun F vs p H2 sm nF eF tk2 stb aF=>?_⟩
   have ne2:∀{b:Addr} {o:HO},H1 b=some o→(∀ps,o≠.tbl ps)→H2 b=some o:=fun e c=>sm _ _ (fun z=>c ps (by rw [z,tt] at e;exact (Option.some.inj e).symm)) e
   have sN2:Ah N H2:=by
    rw [hN]
    exact Qt (hN▸sN1) sm
   have eW2:=ne2 eW (fun _=>nofun)
   have dF:F≠W:=fun z=>by rw [z,eW] at nF;cases nF
   have mG:∀x,pls (pg gs p) x↔pls gs x:=fun x=>⟨fun ⟨g,h,c⟩=>⟨g,(Lf stb).mp h,c⟩,fun ⟨g,h,c⟩=>⟨g,(Lf stb).mpr h,c⟩⟩
   have okG:∀g∈pg gs p,(0≤g.h∧g.h≤2)∧g.a≠g.b:=fun g hg=>ok g (Nk hg)
   have lG:(pg gs p).length≤30:=by
    have:=(S5 al fun i hi=>stb.2.1 i hi).len
    have z:(pk xs p).length=p.length:=by unfold pk;rw [List.length_map]
    have:=stb.1
    omega
   have k:=k (p:=p)
   generalize hG:pg gs p=G at aF okG lG mG
   have w0:∀x,WB 0 (wq fi ((fun _=>none:Wn) x)):=fun x=>⟨(by decide:(0:Int)<1),hf.mono (by decide),A0 rfl⟩
   have lF:vs.length=G.length:=by rw [aF.len,Px]
   refine ⟨F,rfl,⟨_,Ay.of eF⟩,Lj (K:=K) (a:=F) (xs:=vs) (fun i σ H'=>∃(l:List Str) (o3:Option V),σ=[some (.ref r),some (.ref L),some (.ref W),o3]∧Ah N H'∧A3 H' (Bx K) Ce Gj∧H' F=some (.lst vs)∧At (Q8 H') vs (Nl so st fi one two rows (fun _=>none) G)∧Alr H' W l∧(∀x,x∈l↔pls (G.take i) x)∧Gv H' W (2*i) (wU (K2 so st fi one two rows (fun _=>none) (G.take i)))) ?_ (fun i σ H' _ ⟨_,_,_,_,_,e,_⟩=>Ay.of e) ?_ ?_⟩
   ·exact ⟨[],none,rfl,sN2,tk2,eF,aF,⟨[],eW2,rfl,.nil⟩,fun x=>⟨fun h=>by (cases h),fun ⟨g,h,_⟩=>by (cases h)⟩,⟨[],eW2,Nat.zero_le _,fun x=>.inl ⟨rfl,rfl⟩⟩⟩
   ·rintro i v σ H3 hv ⟨l,o3,rfl,sN3,tk3,eF3,aF3,⟨kvs,eW3,ek,nd⟩,ml,ws⟩
    have il:i<G.length:=by
     have:=(List.getElem?_eq_some_iff.mp hv).1
     omega
    have hg:G[i]? =some G[i]:=List.getElem?_eq_getElem il
    obtain ⟨s,hs,sd⟩:=aF3.get hv
    rw [Acq hg] at hs
    cases hs
    generalize G[i]=g at hg sd
    obtain ⟨⟨h0,h2⟩,ab⟩:=okG g (List.mem_of_getElem? hg)
    have tk':G.take (i+1)=G.take i++[g]:=by rw [List.take_add_one,hg];rfl
    have wb:∀x,WB i (wq fi (K2 so st fi one two rows (fun _=>none) (G.take i) x)):=fun x=>by
     have:=Vh (so:=so) tb b hf (gs:=G.take i) (fun g hg=>(okG g (List.mem_of_mem_take hg)).1) w0 x
     rw [List.length_take,Nat.zero_add,Nat.min_eq_left (Nat.le_of_lt il)] at this
     exact this
    rw [tk',Sh]
    generalize hw:K2 so st fi one two rows (fun _=>none) (G.take i)=w at ws wb sd
    have bb:BB (I0 so st fi one two rows w g):=Z1 (L6 tb _ _) b h0 h2
    have lk:kvs.length≤60:=by
     obtain ⟨kvs',e',l',_⟩:=ws
     rw [eW3] at e'
     cases e'
     omega
    refine ⟨kvs,_,⟨eW3,by omega,sd,(wb _).sq (by omega),(wb _).sq (by omega),bb.sq (by decide)⟩,fun p1 p2 H4 s4 m1 m2 q1 q2 eW4=>?_⟩
    have ws4:=ws.put eW3 ab s4 q1 q2 eW4
    have kt4:=s4.kt' eW3
    refine ⟨dd (dd l g.a) g.b,_,rfl,s4.n sN3 nW,Dg tk3 s4 (.inr ⟨_,eW3⟩),s4 _ _ dF eF3,aF3.imp fun v g r=>Ma v g _ _ kt4 r,⟨_,eW4,Ry (Ry ek _ _) _ _,M9 (M9 nd)⟩,fun x=>?_,?_⟩
    ·rw [U6,U6,ml,Aa6]
    ·rw [Zn]
     exact ws4
   rintro σ H3 ⟨l,o3,rfl,sN3,tk3,eF3,aF3,⟨kvs,eW3,ek,nd⟩,ml,ws⟩
   rw [lF,List.take_length] at ml ws
   have ll:l.length≤60:=by
    obtain ⟨kvs',e',l',_⟩:=ws
    rw [eW3] at e'
    cases e'
    have:=congrArg List.length ek
    rw [List.length_map,List.length_map] at this
    omega
   have el:Oh l=plr gs:=Hb (Cn _) (Cn _) fun x=>by
    rw [Ev,ml,mG]
    exact Ge.symm
   refine ⟨kvs,l,eW3,ek,by omega,nd,fun L0 hL0=>?_⟩
   rw [el]
   have s4:Ah H3 (upd H3 L0 (.lst ((plr gs).map V.str))):=Am hL0
   have e4:upd H3 L0 (.lst ((plr gs).map V.str)) L0=some (.lst ((plr gs).map V.str)):=Ad
   generalize upd H3 L0 (.lst ((plr gs).map V.str))=H4 at s4 e4
   have lp:(plr gs).length≤60:=by
    rw [←el]
    exact Nat.le_trans (Hq (Kg (Cn _)) fun x hx=>Ev.mp hx) ll
   refine ⟨L0,rfl,⟨_,Ay.of e4⟩,Jd (fun _ v (x:Str)=>v=V.str x) (fun _ _ _ _ _ h=>h) (fun H x y=>Rx H y (x,wq fi (K2 so st fi one two rows (fun _=>none) G x))) (fun x y H H' k h=>Abb y _ H H' k h) (by rw [List.length_map];omega) (Ay.of e4) (Pg _) ?_ ?_⟩
   ·intro v x H5 hM hx s5 P hP
    subst hM
    have s35:=s4.trans s5
    have hx:pls G x:=(mG x).mpr (Ge.mp hx)
    obtain ⟨kvs',e',_,ws'⟩:=ws
    rw [eW3] at e'
    cases e'
    have hs:=R9 (so:=so) (st:=st) (fi:=fi) (one:=one) (two:=two) (rows:=rows) (w:=fun _=>none) (.inr hx)
    rcases ws' x with ⟨u1,_⟩|⟨q,pp,u1,u2,u3⟩
    ·rw [Option.map_eq_none_iff.mp u1] at hs
     cases hs
    ·have gx:Fm H5 W (.str x) (some (.ref pp)):=by
      have:=Fm.k (k:=Sum.inr x) (s35 _ _ eW3)
      rw [u2] at this
      exact this
     obtain ⟨sp,e1,rfl⟩:=Option.map_eq_some_iff.mp u1
     refine ⟨rfl,W,_,rfl,gx,fun T H6 s6 e6=>hP _ _ s6 ⟨T,pp,rfl,e6,?_⟩⟩
     rw [e1]
     exact (s35.trans s6) _ _ u3
   intro D H5 ys s5 n5 e5 a5
   have s35:=s4.trans s5
   have sN5:=sN3.trans s35
   refine k D ys H5 (fun b o ne e=>sN5 b o (by rw [hN];unfold Hj;rw [if_neg ne];exact e)) ?_ e5 (tk3.up s35) stb (by rw [hG];exact Wb a5)
   cases c:H D with
   |none=>rfl
   | some o=>
    exfalso
    by_cases z:D=Bx K
    ·obtain ⟨ps3,t3,_⟩:=tk3.up s4
     rw [←z,n5] at t3
     cases t3
    ·have:N D=some o:=by
      rw [hN]
      unfold Hj
      rw [if_neg z]
      exact c
     rw [Bl (sN3.trans s4) n5] at this
     cases this
def Ut (K:PySem.W.Frag):List V→Hp→VK→Prop:=fun xs H Q=>match xs with
 |[.ref p]=>∃ys,(Ay K H p ys∨E4 K H p ys)∧∀l,H l=none→Q (.ref l) (upd H l (.lst ys))
 |_=>False
theorem Pu {X:Cx}:Ed X (.type "list") (Ut X.K):=by
 intro pins s σ H xs us Q I r h
 match xs,h with
 |[.ref p],⟨ys,h1,q⟩=>exact Jj pins s σ H _ us Q I r ⟨p,ys,rfl,h1,fun l hl=>q l hl⟩
def Mr (K:PySem.W.Frag)(ns:List Int):Sp:=fun vs H Q _=>match vs with
 |[.ref L]=>∃gs,(Bk K H L gs∧(plr gs).length<64)∧∀D H',Ah H H'→H D=none→H' D=some (.lst ((plr gs).map V.str))→Q (.ref D) H'
 |_=>False
theorem Ui:Al ["games"] ["games"] (Af J6):=⟨rfl,rfl,rfl,by decide +kernel,rfl,by decide +kernel,by decide +kernel⟩
theorem Uk (d:B8 K mg "players" J6 ["games"])(er:Bg K mg c_Capped c_Early c_Ledger c_NoTable c_Rested c_Rule)(n_sorted:mg "sorted"=none)(n_set:mg "set"=none)  :Bm P w K mg base "players" ["games"] 1 (Mr K ns):=by
 refine d.cal (k:=0) Ui (fun vs H Q E h=>?_) (fun f cdv A outer s H vs Q E hr h=>?_)
 ·match vs,h with
  |[.ref L],_=>rfl
 ·match vs,h with
  | [.ref L],hq0=>
   obtain ⟨gs,⟨⟨vs,hx,hm,hl⟩,h64⟩,k⟩:=hq0
   refine ⟨_,(@Ag _ _ _ (@Aq _ _ _ _ (@Zm _ _ _ _ _ _ _ (by rfl) n_sorted (by rfl) n_set (@Aj _ _ _ _ _ _ _ _ Qf (@Fy _ _ _ _ _ _ _ _ _ _ ["played"] [] [] rfl (@Dq _ _ _ _ (dv 0)) (fun C s H fp=>(@A6 _ _ (0) _ (show List.Nodup [("played":Str)] by decide +kernel) rfl (by trivial) (by trivial))) (fun C s H fp=>(@Ap _ _ _ _ _ _ _ Av (dv 0) Ab (fun _ _=>rfl))) rfl rfl (by decide +kernel) (by decide +kernel) (by rfl) True.intro True.intro (by intro _;rfl)) (@Fy _ _ _ _ _ _ _ _ _ _ ["played"] [] [] rfl (@Dq _ _ _ _ (dv 0)) (fun C s H fp=>(@A6 _ _ (0) _ (show List.Nodup [("played":Str)] by decide +kernel) rfl (by trivial) (by trivial))) (fun C s H fp=>(@Ap _ _ _ _ _ _ _ Av (dv 0) Ab (fun _ _=>rfl))) rfl rfl (by decide +kernel) (by decide +kernel) (by rfl) True.intro True.intro (by intro _;rfl))) (by rfl) (by rfl) (by rfl)))),?_⟩
   have hz:vs.length≤1000:=by rw [hm.len];omega
   refine ⟨L,rfl,⟨_,hx⟩,Jd Bw B6 (fun _ g y=>y=V.str g.a) (fun _ _ _ _ _ h=>h) hz hx hm ?_ ?_⟩
   ·intro v m H2 hM _ s2 P hP
    obtain ⟨p,rfl,e⟩:=hM
    exact ⟨rfl,_,e,hP _ _ (Ah.refl _) rfl⟩
   intro D1 H1 ys1 s1 _ e1 a1
   have y1:=Ko a1
   have hm1:At (Bw H1) vs gs:=hm.imp fun v g r=>B6 v g _ _ (A7 s1) r
   refine ⟨L,rfl,⟨_,s1.seq hx⟩,Jd Bw B6 (fun _ g y=>y=V.str g.b) (fun _ _ _ _ _ h=>h) hz (s1.seq hx) hm1 ?_ ?_⟩
   ·intro v m H2 hM _ s2 P hP
    obtain ⟨p,rfl,e⟩:=hM
    exact ⟨rfl,_,e,hP _ _ (Ah.refl _) rfl⟩
   intro D2 H2 ys2 s2 _ e2 a2
   have y2:=Ko a2
   have l1:=a1.len
   have l2:=a2.len
   refine ⟨_,_,s2 _ _ e1,e2,by omega,fun D3 H3 s3 e3=>⟨gs.map (·.a)++gs.map (·.b),Ay.of ?_,?_,h64,fun D hD=>?_⟩⟩
   ·rw [e3,y1,y2,List.map_append]
   ·rw [List.length_append,List.length_map,List.length_map]
    omega
   ·have s:=s1.trans (s2.trans s3)
    exact k D _ (s.trans (Am hD)) (Bl s hD) Ad
abbrev En:=Int×Gm
def Lu (H:Hp)(kv:B4×V)(e:En):Prop:=kv.1=Sum.inl e.1∧Bw H kv.2 e.2
theorem Fi (kv:B4×V)(e:En)(H H':Hp)(k:Kt H H')(h:Lu H kv e):Lu H' kv e:=⟨h.1,B6 _ _ _ _ k h.2⟩
def Ji (es:List En):Prop:=es.Pairwise fun a b=>a.1<b.1
def Ag7 (H:Hp)(A:Addr)(es:List En):Prop:=∃kvs,H A=some (.dK kvs)∧At (Lu H) kvs es
theorem Rs {H:Hp}:∀{kvs:List (B4×V)} {es:List En},At (Lu H) kvs es→At (Bw H) (kvs.map (·.2)) (es.map (·.2))
 |_,_,.nil=>.nil
 |_,_,.cons h t=>.cons h.2 (Rs t)
theorem Wi {H:Hp}:∀{kvs:List (B4×V)} {es:List En},At (Lu H) kvs es→kvs.map (·.1)=es.map fun e=>(Sum.inl e.1:B4)
 |_,_,.nil=>rfl
 |_,_,.cons h t=>by rw [List.map_cons,List.map_cons,h.1,Wi t]
theorem Qn {e:En}{es:List En}(h:Ji (e::es)):∀x∈es,x.1≠e.1:=fun x hx=>by
 have:=(List.pairwise_cons.mp h).1 x hx
 omega
theorem Nj {H:Hp}:∀{kvs:List (B4×V)} {es:List En},At (Lu H) kvs es→Ji es→∀{n:Int} {g:Gm},(n,g)∈es→∃v,B5 kvs (Sum.inl n)=some v∧Bw H v g
 | _,_,.cons (a:=kv) (b:=e) h t,hi,n,g,hm=>by
  rcases List.mem_cons.mp hm with e'|hm
  ·refine ⟨kv.2,B1 (by rw [h.1,←e']),?_⟩
   have:=h.2
   rw [←e'] at this
   exact this
  ·obtain ⟨v,h1,h2⟩:=Nj t (List.pairwise_cons.mp hi).2 hm
   refine ⟨v,?_,h2⟩
   rw [Bq]
   ·exact h1
   ·rw [h.1]
    intro z
    have:=Qn hi _ hm
    exact this (Sum.inl.inj z).symm
theorem Wf {H:Hp}:∀{kvs:List (B4×V)} {es:List En},At (Lu H) kvs es→∀{n:Int},(∀e∈es,e.1≠n)→B5 kvs (Sum.inl n)=none
 |_,_,.nil,_,_=>rfl
 | _,_,.cons (a:=kv) (b:=e) h t,n,hn=>by
  rw [Bq]
  ·exact Wf t fun e he=>hn e (List.mem_cons_of_mem _ he)
  ·rw [h.1]
   intro z
   exact hn e List.mem_cons_self (Sum.inl.inj z)
theorem Wv {H:Hp}:∀{kvs:List (B4×V)} {es:List En},At (Lu H) kvs es→∀(n:Int),At (Lu H) (Fl kvs (Sum.inl n)) (es.filter fun e=>decide (e.1≠n))
 |_,_,.nil,_=>.nil
 | _,_,.cons (a:=kv) (b:=e) h t,n=>by
  have ih:=Wv t n
  unfold Fl at ih ⊢
  by_cases c:e.1=n
  ·rw [List.filter_cons_of_neg (by rw [h.1,c];simp),List.filter_cons_of_neg (by simp [c])]
   exact ih
  ·rw [List.filter_cons_of_pos (by rw [h.1];simp [c]),List.filter_cons_of_pos (by simp [c])]
   exact .cons h ih
def N4 (es:List En)(n:Int)(g0:Gm):List En:=es.filter fun e=>Ze e.2.d e.1 g0.d n
theorem Jz:∀{es:List En},Ji es→∀{e e':En},e∈es→e'∈es→e.1=e'.1→e=e'
 |[],_,_,_,he,_,_=>absurd he List.not_mem_nil
 | x::es,h,e,e',he,he',z=>by
  rcases List.mem_cons.mp he with h1|h1
  ·rcases List.mem_cons.mp he' with h2|h2
   ·rw [h1,h2]
   ·rw [h1] at z
    exact absurd z.symm (Qn h _ h2)
  ·rcases List.mem_cons.mp he' with h2|h2
   ·rw [h2] at z
    exact absurd z (Qn h _ h1)
   ·exact Jz (List.pairwise_cons.mp h).2 h1 h2 z
def cB (es:List En)(n:Int)(g0:Gm):B4→Bool
 |.inl m=>es.any fun e=>decide (e.1=m)&&Ze e.2.d e.1 g0.d n
 |.inr _=>false
theorem Afi {es:List En}(h:Ji es){n:Int}{g0:Gm}{e:En}(he:e∈es):cB es n g0 (Sum.inl e.1)=Ze e.2.d e.1 g0.d n:=by
 unfold cB
 rw [Bool.eq_iff_iff,List.any_eq_true]
 constructor
 ·rintro ⟨x,hx,c⟩
  rw [Bool.and_eq_true] at c
  have:=Jz h hx he (of_decide_eq_true c.1)
  subst this
  exact c.2
 ·intro c
  exact ⟨e,he,by rw [Bool.and_eq_true];exact ⟨decide_eq_true rfl,c⟩⟩
theorem Acp {es:List En}(h:Ji es){n:Int}{g0:Gm}:(es.map fun e=>(Sum.inl e.1:B4)).filter (cB es n g0)=(N4 es n g0).map fun e=>(Sum.inl e.1:B4):=by
 rw [List.filter_map]
 unfold N4
 congr 1
 exact List.filter_congr fun e he=>Afi h he
theorem Wd {H:Hp}{es:List En}:∀{l:List En} {ys:List V},(∀e∈l,e∈es)→At (fun (x:B4) y=>∀e∈es,x=Sum.inl e.1→Bw H y e.2) (l.map fun e=>(Sum.inl e.1:B4)) ys→At (Bw H) ys (l.map (·.2))
 |[],_,_,.nil=>.nil
 |e::l,_,hl,.cons h t=>.cons (h e (hl e List.mem_cons_self) rfl) (Wd (fun e he=>hl e (List.mem_cons_of_mem _ he)) t)
def Pb (K:PySem.W.Frag)(ns:List Int):Sp:=fun vs H Q _=>match vs with
 |[.ref A,.int n]=>∃(es:List En) (g0:Gm),(Ag7 H A es∧Ji es∧es.length≤40∧(n,g0)∈es∧A3 H (Bx K) Ce Gj) ∧
  ∀D vs H' p,Xt (Bx K) H H'→H D=none→H' D=some (.lst vs)→A3 H' (Bx K) Ce Gj→Fx (dk ((N4 es n g0).map (·.2))) ((N4 es n g0).map (·.2)).length p→At (Bw H') vs (pg ((N4 es n g0).map (·.2)) p)→Q (.ref D) H'
 |_=>False
theorem Pe:Al ["kept","number","place"] ["kept","number"] (Af Me):=⟨rfl,rfl,rfl,by decide +kernel,rfl,by decide +kernel,by decide +kernel⟩
theorem Y2 (d:B8 K mg "behind" Me ["kept","number"])(er:Bg K mg c_Capped c_Early c_Ledger c_NoTable c_Rested c_Rule)   (c_in_order:Bm P w K mg base "in_order" ["games"] 3 (Ex K ns)):Bm P w K mg base "behind" ["kept","number"] 4 (Pb K ns):=by
 refine d.cal (k:=3) Pe (fun vs H Q E h=>?_) (fun f cdv A outer s H vs Q E hr h=>?_)
 ·match vs,h with
  |[.ref A,.int n],_=>rfl
 ·match vs,h with
  | [.ref A,.int n],hq0=>
   obtain ⟨es,g0,⟨⟨kvs,eA,al⟩,hi,l40,hn,tk⟩,k⟩:=hq0
   refine ⟨_,(@Ae _ _ _ _ _ (@Au _ _ (2) _ _ _ _ Pe.nd rfl (by trivial) (@Ca _ _ _ _ _ (@Aa _ _ _ _ _ (@Ap _ _ _ _ _ _ _ Av (@Ha _ _ _ _ _ _ (@u1 _ _ hr.units) (dv 0) (dv 1) (fun _ _=>rfl)) Ab (fun _ _=>rfl)) (@Aa _ _ _ _ _ (dv 1) Ac (by rfl)) (by rfl))) (by rfl) (by trivial)) (@Ag _ _ _ (@Aq _ _ _ _ (@An _ _ _ _ _ _ _ _ _ _ _ c_in_order hr (by decide) (by rfl) (@Aa _ _ _ _ _ (@Acn _ _ _ (@S9 _ _ _ _ _ _ _ _ _ _ _ _ ["other"] ["kept","place"] [0,2] rfl (@Abt _ _ _ _ (dv 0)) (fun C s H fp=>(@A6 _ _ (0) _ (show List.Nodup [("other":Str),("kept":Str),("place":Str)] by decide +kernel) rfl (by trivial) (by trivial))) (fun C s H fp=>(@Bv _ _ _ _ _ _ _ _ (show Dv _ _ Ai9 from (Ajg hr.units)) (@Ca _ _ _ _ _ (@Aa _ _ _ _ _ (@Ap _ _ _ _ _ _ _ Av (@Ha _ _ _ _ _ _ (@u1 _ _ hr.units) (dv 1) (dv 0) (fun _ _=>rfl)) Ab (fun _ _=>rfl)) (@Aa _ _ _ _ _ (dv 0) Ac (by rfl)) (by rfl))) (dv 2) (@A5 _ _ (by decide) (by decide)))) (fun C s H fp=>(@Ha _ _ _ _ _ _ (@u1 _ _ hr.units) (dv 1) (dv 0) (fun _ _=>rfl))) rfl rfl (by decide +kernel) (by decide +kernel) (by rfl) ⟨rfl,⟨rfl,True.intro⟩⟩ ⟨⟨rfl,rfl,rfl,rfl⟩,⟨⟨rfl,rfl,rfl,rfl⟩,True.intro⟩⟩ (by intro _;rfl))) Ac (by rfl)) (by decide) (by rfl) (by rfl))))),?_⟩
   obtain ⟨v0,hv0,p0,rfl,hp0⟩:=Nj al hi hn
   have dg:∀{H':Hp} {m:Int},Rd H' A (.dK kvs)→Fm H' A (.int m) (B5 kvs (Sum.inl m)):=fun e=>.inl ⟨kvs,Sum.inl _,e,rfl,rfl⟩
   have g1:=dg (m:=n) (.inl eA)
   rw [hv0] at g1
   refine ⟨A,_,rfl,g1,_,hp0,fun P H1 s1 e1=>?_⟩
   have eA1:=s1 _ _ eA
   refine ⟨A,kvs,rfl,eA1,fun o=>?_⟩
   have x2:Sx A H1 (upd H1 A (.frz o (.dK kvs))):=Sx.upd
   have e2:upd H1 A (.frz o (.dK kvs)) A=some (.frz o (.dK kvs)):=Ad
   have kt2:Kt H1 (upd H1 A (.frz o (.dK kvs))):=x2.kt' eA1
   have eP2:=kt2 _ _ e1
   have al2:At (Lu (upd H1 A (.frz o (.dK kvs)))) kvs es:=al.imp fun kv e r=>Fi kv e _ _ ((A7 s1).trans kt2) r
   generalize upd H1 A (.frz o (.dK kvs))=H2 at x2 e2 kt2 eP2 al2
   have kl:kvs.length≤40:=by rw [al.len];exact l40
   have ek:=Wi al
   refine Ub (fun H x y=>∀e∈es,x=Sum.inl e.1→Bw H y e.2) (fun x y H H' kt h e he z=>B6 _ _ _ _ kt (h e he z)) (cB es n g0) (by omega) e2 ?_ ?_
   ·intro x H3 hx s3 P3 P3' hP hP'
    rw [ek] at hx
    obtain ⟨e,he,rfl⟩:=List.mem_map.mp hx
    obtain ⟨v,hv,p,rfl,hp⟩:=Nj (al2.imp fun kv e r=>Fi kv e _ _ (A7 s3) r) hi he
    have gx:=dg (m:=e.1) (.inr ⟨o,s3 _ _ e2⟩)
    rw [hv] at gx
    have hP:=hP
    rw [Afi hi he] at hP hP'
    have un:∀{H':Hp},Bw H' (.ref p) e.2→∀e'∈es,(Sum.inl e.1:B4)=Sum.inl e'.1→Bw H' (.ref p) e'.2:=fun hg e' he' z=>by
     have:=Jz hi he he' (Sum.inl.inj z)
     subst this
     exact hg
    refine ⟨rfl,A,_,rfl,gx,_,hp,fun T H4 s4 e4=>⟨e.2.d,e.1,g0.d,n,e4,s4 _ _ (s3 _ _ eP2),⟨fun h=>?_,fun h=>hP' h _ s4⟩⟩⟩
    have gx4:=dg (m:=e.1) (.inr ⟨o,s4 _ _ (s3 _ _ e2)⟩)
    rw [hv] at gx4
    exact ⟨A,_,rfl,gx4,hP h _ _ s4 (un ⟨p,rfl,s4 _ _ hp⟩)⟩
   intro D0 H3 ys s3 n3 e3 a3
   rw [ek,Acp hi] at a3
   have aY:At (Bw H3) ys ((N4 es n g0).map (·.2)):=Wd (fun e he=>(List.mem_filter.mp he).1) a3
   have e3A:=s3 _ _ e2
   refine ⟨A,o,kvs,e3A,fun o' u z=>?_,?_⟩
   ·have z:H A=some (.frz o' u):=z
    rw [eA] at z
    cases z
   have nDA:D0≠A:=fun z=>by rw [z,e3A] at e3;cases e3
   have sA:Sx A H3 (upd H3 A (.dK kvs)):=Sx.upd
   have s14:Ah H1 (upd H3 A (.dK kvs)):=fun b u e=>by
    by_cases c:b=A
    ·subst c
     rw [eA1] at e
     cases e
     exact Ad
    ·exact sA b u c (s3 b u (x2 b u c e))
   have kt4:Kt H3 (upd H3 A (.dK kvs)):=fun p xs e=>sA p _ (fun z=>by rw [z,e3A] at e;cases e) e
   have eD4:=sA _ _ nDA e3
   generalize upd H3 A (.dK kvs)=H4 at sA s14 kt4 eD4
   have aY4:=aY.imp fun v g r=>B6 v g _ _ kt4 r
   have s04:=s1.trans s14
   have lb:(N4 es n g0).length≤es.length:=List.length_filter_le _ _
   refine ⟨_,ys,⟨Ay.of eD4,aY4,by rw [List.length_map];omega,tk.up s04⟩,fun D H5 p sm nD eD tk5 stb=>?_⟩
   obtain ⟨ps,tt,_⟩:=tk.up s04
   have kt5:Kt H4 H5:=fun q xs e=>sm q _ (fun z=>by rw [z,tt] at e;cases e) e
   exact k D _ H5 p (fun b o ne e=>sm b o ne (s04 b o e)) (Bl s04 nD) eD tk5 stb (S5 (aY4.imp fun v g r=>B6 v g _ _ kt5 r) fun i hi=>stb.2.1 i hi)
def Pd (ns:List Str)(gs:List Gm):List Str:=gs.foldl (fun ns g=>if g.a∈ns∨g.b∈ns then ns++[g.a,g.b] else ns) ns
theorem Q0:∀(gs:List Gm) (ns:List Str),(Pd ns gs).length≤ns.length+2*gs.length
 |[],_=>Nat.le_refl _
 | g::gs,ns=>by
  have:=Q0 gs (if g.a∈ns∨g.b∈ns then ns++[g.a,g.b] else ns)
  show (Pd (if g.a∈ns∨g.b∈ns then ns++[g.a,g.b] else ns) gs).length≤_
  have l:(if g.a∈ns∨g.b∈ns then ns++[g.a,g.b] else ns).length≤ns.length+2:=by
   split
   ·rw [List.length_append]
    exact Nat.le_refl _
   ·omega
  rw [List.length_cons]
  omega
theorem Xg {nm:List Str}:∀{gs:List Gm} {ns:List Str},(∀x∈ns,x∈nm)→(∀g∈gs,g.a∈nm∧g.b∈nm)→∀x∈Pd ns gs,x∈nm
 |[],_,h,_=>h
 | g::gs,ns,h,hg=>by
  refine Xg (gs:=gs) (fun x hx=>?_) fun g' h'=>hg g' (List.mem_cons_of_mem _ h')
  obtain ⟨g1,g2⟩:=hg g List.mem_cons_self
  have hx:x∈(if g.a∈ns∨g.b∈ns then ns++[g.a,g.b] else ns):=hx
  split at hx
  ·rcases List.mem_append.mp hx with hx|hx
   ·exact h x hx
   ·rcases List.mem_cons.mp hx with rfl|hx
    ·exact g1
    ·rw [List.mem_singleton.mp hx]
     exact g2
  ·exact h x hx
theorem Aa8 {gs:List Gm}{ns:List Str}{g:Gm}:Pd ns (gs++[g])=if g.a∈Pd ns gs∨g.b∈Pd ns gs then Pd ns gs++[g.a,g.b] else Pd ns gs:=by
 unfold Pd
 rw [List.foldl_append]
 rfl
theorem Ln {x:Str}:∀(l:List Str),inV (.str x) (l.map V.str)=decide (x∈l)
 |[]=>rfl
 | y::l=>by
  have ih:=Ln (x:=x) l
  unfold inV at ih ⊢
  rw [List.map_cons,List.any_cons,ih]
  have e:((y:Str)==x)=decide (y=x):=by
   by_cases h:y=x
   ·subst h;simp
   ·rw [decide_eq_false h];exact beq_eq_false_iff_ne.mpr h
  show ((y==x)||decide (x∈l))=_
  rw [e,←Bool.decide_or]
  refine decide_eq_decide.mpr ⟨fun h=>?_,fun h=>?_⟩
  ·rcases h with rfl|h
   ·exact List.mem_cons_self
   ·exact List.mem_cons_of_mem _ h
  ·rcases List.mem_cons.mp h with rfl|h
   ·exact .inl rfl
   ·exact .inr h
theorem Kl:∀(l:List Str),(l.map V.str).all G6=true
 |[]=>rfl
 |_::l=>by
  rw [List.map_cons,List.all_cons,Kl l]
  rfl
def Hx (K:PySem.W.Frag)(ns:List Int):Sp:=fun vs H Q _=>match vs with
 |[.ref A,.int n]=>∃(es:List En) (g0:Gm) (nm:List Str),(Ag7 H A es∧Ji es∧es.length≤40∧(n,g0)∈es∧A3 H (Bx K) Ce Gj∧nm.length≤8∧∀e∈es,e.2.a∈nm∧e.2.b∈nm) ∧
  ∀D H' p,Xt (Bx K) H H'→H D=none→H' D=some (.lst ((Oh (Pd [g0.a,g0.b] (pg ((N4 es n g0).map (·.2)) p))).map V.str))→A3 H' (Bx K) Ce Gj→Fx (dk ((N4 es n g0).map (·.2))) ((N4 es n g0).map (·.2)).length p→Q (.ref D) H'
 |_=>False
theorem Ib:Al ["kept","number","names","played"] ["kept","number"] (Af J8):=⟨rfl,rfl,rfl,by decide +kernel,rfl,by decide +kernel,by decide +kernel⟩
theorem U8 (d:B8 K mg "reached" J8 ["kept","number"])(er:Bg K mg c_Capped c_Early c_Ledger c_NoTable c_Rested c_Rule)(n_sorted:mg "sorted"=none)(n_set:mg "set"=none)(n_list:mg "list"=none)  (c_behind:Bm P w K mg base "behind" ["kept","number"] 4 (Pb K ns)):Bm P w K mg base "reached" ["kept","number"] 5 (Hx K ns):=by
 refine d.cal (k:=4) Ib (fun vs H Q E h=>?_) (fun f cdv A outer s H vs Q E hr h=>?_)
 ·match vs,h with
  |[.ref A,.int n],_=>rfl
 ·match vs,h with
  | [.ref A,.int n],hq0=>
   obtain ⟨es,g0,nm,⟨⟨kvs,eA,al⟩,hi,l40,hn,tk,l8,sub⟩,k⟩:=hq0
   refine ⟨_,(@Ae _ _ _ _ _ (@Au _ _ (2) _ _ _ _ Ib.nd rfl (by trivial) (@Pa _ _ _ _ _ _ _ _ _ Pu (by rfl) n_list (by decide +kernel) (@Aa _ _ _ _ _ (@C2 _ _ _ _ _ _ _ _ _ _ Vm (@Ha _ _ _ _ _ _ (@u1 _ _ hr.units) (dv 0) (dv 1) (fun _ _=>rfl)) (Cj Ab) (Cj Ab)) Ac (by rfl)) (by decide) (by decide) (by rfl) (by rfl)) (by rfl) (by trivial)) (@Ae _ _ _ _ _ (@G7 _ _ _ _ _ _ _ _ PassesOwn.never rfl (@Dq _ _ _ _ (@An _ _ _ _ _ _ _ _ _ _ _ c_behind hr (by decide) (by rfl) (@Aa _ _ _ _ _ (dv 0) (@Aa _ _ _ _ _ (dv 1) Ac (by rfl)) (by rfl)) (by decide) (by rfl) (by rfl))) (@A6 _ _ (3) _ Ib.nd rfl (by trivial) (by trivial)) (@Ag _ _ _ (@D8 _ _ _ _ _ _ _ _ (@L2.PW.pt _ _ _ (@Xr _ _ _ _ _ _ _ (@Bv _ _ _ _ _ _ _ _ Aj6 (@Ap _ _ _ _ _ _ _ Av (dv 3) Ab (fun _ _=>rfl)) (dv 2) (by with_unfolding_all rfl)) (@Nn _ _ _ _ (@Bv _ _ _ _ _ _ _ _ Aj6 (@Ap _ _ _ _ _ _ _ Av (dv 3) Ab (fun _ _=>rfl)) (dv 2) (by with_unfolding_all rfl))))) (@Ag _ _ _ (@Bs _ _ _ _ (@G4 _ _ _ _ _ _ _ _ _ _ _ _ PySem.F.plainAttrs_list PySem.F.slot_list_extend PySem.F.type_list_extend Acs (dv 2) (@Aa _ _ _ _ _ (@C2 _ _ _ _ _ _ _ _ _ _ Vm (dv 3) (Cj Ab) (Cj Ab)) Ac (by rfl)) (by rfl) (by rfl) (by rfl) (by rfl) (by rfl)) (by rfl))) A8)) (by intro _;rfl)) (@Ag _ _ _ (@Aq _ _ _ _ (@Zm _ _ _ _ _ _ _ (by rfl) n_sorted (by rfl) n_set (dv 2) (by rfl) (by rfl) (by rfl)))))),?_⟩
   obtain ⟨v0,hv0,p0,rfl,hp0⟩:=Nj al hi hn
   have g1:Fm H A (.int n) (B5 kvs (Sum.inl n)):=.inl ⟨kvs,Sum.inl _,.inl eA,rfl,rfl⟩
   rw [hv0] at g1
   refine ⟨A,_,rfl,g1,_,rfl,_,rfl,p0,_,rfl,E4.of hp0,(by show ¬(HT.sIx 5 0 (some 1)=0∧HT.sIx 5 5 (some 3)=5);decide),fun t ht=>?_⟩
   rw [show Hd [V.int g0.d,V.str g0.a,V.str g0.b,V.int g0.h,V.int g0.s] (some 1) (some 3)=[V.str g0.a,V.str g0.b] from rfl]
   have s1:Ah H (upd H t (.tup [.str g0.a,.str g0.b])):=Am ht
   have e1:upd H t (.tup [.str g0.a,.str g0.b]) t=some (.tup [.str g0.a,.str g0.b]):=Ad
   generalize upd H t (.tup [.str g0.a,.str g0.b])=H1 at s1 e1
   refine ⟨_,.inr (E4.of e1),fun N hN=>?_⟩
   have s2:Ah H1 (upd H1 N (.lst [.str g0.a,.str g0.b])):=Am hN
   have e2:upd H1 N (.lst [.str g0.a,.str g0.b]) N=some (.lst ([g0.a,g0.b].map V.str)):=Ad
   have hN0:H N=none:=Bl s1 hN
   generalize upd H1 N (.lst [.str g0.a,.str g0.b])=H2 at s2 e2
   have s02:=s1.trans s2
   refine ⟨es,g0,⟨⟨kvs,s02 _ _ eA,al.imp fun kv e r=>Fi kv e _ _ (A7 s02) r⟩,hi,l40,hn,tk.up s02⟩,fun B vs H3 p sm nB eB tk3 stb aB=>?_⟩
   obtain ⟨ps,tt,_⟩:=tk.up s02
   have nNT:N≠Bx K:=fun z=>by rw [z,tt] at e2;cases e2
   have e3:=sm _ _ nNT e2
   have nBN:B≠N:=fun z=>by rw [z,e2] at nB;cases nB
   have hz:∀b o,b≠Bx K→H b=some o→H3 b=some o:=fun b o ne e=>sm b o ne (s02 b o e)
   have lb:(N4 es n g0).length≤es.length:=List.length_filter_le _ _
   have lp:(pg ((N4 es n g0).map (·.2)) p).length≤40:=by
    have:=stb.1
    have:(pg ((N4 es n g0).map (·.2)) p).length≤p.length:=List.length_filterMap_le ..
    rw [List.length_map] at *
    omega
   have subG:∀g∈pg ((N4 es n g0).map (·.2)) p,g.a∈nm∧g.b∈nm:=fun g hg=>by
    obtain ⟨e,he,rfl⟩:=List.mem_map.mp (Nk hg)
    exact sub e (List.mem_filter.mp he).1
   have k:=k (p:=p)
   generalize hG:pg ((N4 es n g0).map (·.2)) p=G at aB lp subG k
   have lv:=aB.len
   refine ⟨B,rfl,⟨_,Ay.of eB⟩,Lj (K:=K) (a:=B) (xs:=vs) (fun i σ H'=>∃o3:Option V,σ=[some (.ref A),some (.int n),some (.ref N),o3]∧(∀b o,b≠N→H3 b=some o→H' b=some o)∧A3 H' (Bx K) Ce Gj∧H' N=some (.lst ((Pd [g0.a,g0.b] (G.take i)).map V.str))) ⟨none,rfl,fun b o _ e=>e,tk3,e3⟩ (fun i σ H' _ ⟨_,_,s,_⟩=>Ay.of (s _ _ nBN eB)) ?_ ?_⟩
   ·rintro i v σ H4 hv ⟨o3,rfl,s4,tk4,e4⟩
    obtain ⟨g,hg,pg',rfl,hpg⟩:=aB.get hv
    have hpg4:=s4 _ _ (fun z=>by rw [z,e3] at hpg;cases hpg) hpg
    have tk':G.take (i+1)=G.take i++[g]:=by rw [List.take_add_one,hg];rfl
    have ll:(Pd [g0.a,g0.b] (G.take i)).length≤82:=by
     have:=Q0 (G.take i) [g0.a,g0.b]
     rw [List.length_take] at this
     have z:[g0.a,g0.b].length=2:=rfl
     omega
    rw [tk',Aa8]
    generalize Pd [g0.a,g0.b] (G.take i)=l at e4 ll
    have go:(g.a∈l∨g.b∈l)→∀t':Addr,H4 t'=none→∃o3:Option V,[some (V.ref A),some (V.int n),some (V.ref N),some (V.ref pg')]=[some (.ref A),some (.int n),some (.ref N),o3]∧(∀b o,b≠N→H3 b=some o→upd (upd H4 t' (.tup [.str g.a,.str g.b])) N (.lst (l.map V.str++[.str g.a,.str g.b])) b=some o)∧A3 (upd (upd H4 t' (.tup [.str g.a,.str g.b])) N (.lst (l.map V.str++[.str g.a,.str g.b]))) (Bx K) Ce Gj∧upd (upd H4 t' (.tup [.str g.a,.str g.b])) N (.lst (l.map V.str++[.str g.a,.str g.b])) N=some (.lst ((if g.a∈l∨g.b∈l then l++[g.a,g.b] else l).map V.str)):=fun c t' ht'=>by
     have ntN:t'≠N:=fun z=>by rw [z,e4] at ht';cases ht'
     have s5:Ah H4 (upd H4 t' (.tup [.str g.a,.str g.b])):=Am ht'
     refine ⟨_,rfl,fun b o ne e=>?_,Dg (tk4.up s5) Sx.upd (.inl ⟨_,s5 _ _ e4⟩),?_⟩
     ·rw [Ak ne]
      exact s5 b o (s4 b o ne e)
     ·rw [if_pos c,Ad,List.map_append]
      rfl
    refine ⟨_,hpg4,_,.inl (Ay.of e4),rfl,Kl l,?_⟩
    rw [Ln]
    refine ⟨fun h=>?_,fun h=>⟨_,hpg4,_,.inl (Ay.of e4),rfl,Kl l,?_⟩⟩
    rotate_left
    ·rw [Ln]
     refine ⟨fun h'=>?_,fun h'=>?_⟩
     rotate_left
     ·have c:¬(g.a∈l∨g.b∈l):=fun z=>z.elim (of_decide_eq_false h) (of_decide_eq_false h')
      rw [if_neg c]
      exact ⟨_,rfl,s4,tk4,e4⟩
     have c:g.a∈l∨g.b∈l:=.inr (of_decide_eq_true h')
     refine ⟨.inl ⟨rfl,_,Ay.of e4⟩,_,rfl,_,rfl,pg',_,rfl,E4.of hpg4,(by show ¬(HT.sIx 5 0 (some 1)=0∧HT.sIx 5 5 (some 3)=5);decide),fun t' ht'=>?_⟩
     rw [show Hd [V.int g.d,V.str g.a,V.str g.b,V.int g.h,V.int g.s] (some 1) (some 3)=[V.str g.a,V.str g.b] from rfl]
     have s5:Ah H4 (upd H4 t' (.tup [.str g.a,.str g.b])):=Am ht'
     exact ⟨N,t',_,_,rfl,rfl,s5 _ _ e4,Ad,by rw [List.length_map];exact Nat.le_trans (show l.length+2≤84 by omega) (by decide),go c t' ht'⟩
    have c:g.a∈l∨g.b∈l:=.inl (of_decide_eq_true h)
    refine ⟨fun _=>?_,fun h=>nb h⟩
    refine ⟨.inl ⟨rfl,_,Ay.of e4⟩,_,rfl,_,rfl,pg',_,rfl,E4.of hpg4,(by show ¬(HT.sIx 5 0 (some 1)=0∧HT.sIx 5 5 (some 3)=5);decide),fun t' ht'=>?_⟩
    rw [show Hd [V.int g.d,V.str g.a,V.str g.b,V.int g.h,V.int g.s] (some 1) (some 3)=[V.str g.a,V.str g.b] from rfl]
    have s5:Ah H4 (upd H4 t' (.tup [.str g.a,.str g.b])):=Am ht'
    exact ⟨N,t',_,_,rfl,rfl,s5 _ _ e4,Ad,by rw [List.length_map];exact Nat.le_trans (show l.length+2≤84 by omega) (by decide),go c t' ht'⟩
   rintro σ H4 ⟨o3,rfl,s4,tk4,e4⟩
   rw [lv,List.take_length] at e4
   have l82:(Pd [g0.a,g0.b] G).length≤82:=by
    have:=Q0 G [g0.a,g0.b]
    have z:[g0.a,g0.b].length=2:=rfl
    omega
   have sN:∀x∈Pd [g0.a,g0.b] G,x∈nm:=Xg (fun x hx=>by
    obtain ⟨h1,h2⟩:=sub _ hn
    rcases List.mem_cons.mp hx with rfl|hx
    ·exact h1
    ·rw [List.mem_singleton.mp hx]
     exact h2) subG
   have l64:(Oh (Pd [g0.a,g0.b] G)).length≤nm.length:=Hq (Kg (Cn _)) fun x hx=>sN x (Ev.mp hx)
   refine ⟨_,Ay.of e4,by omega,by omega,fun D hD=>?_⟩
   have s5:Ah H4 (upd H4 D (.lst ((Oh (Pd [g0.a,g0.b] G)).map V.str))):=Am hD
   have hs:Xt (Bx K) H (upd H4 D (.lst ((Oh (Pd [g0.a,g0.b] G)).map V.str))):=fun b o ne e=>s5 b o (s4 b o (fun z=>by rw [z,hN0] at e;cases e) (hz b o ne e))
   refine k D _ hs ?_ Ad (tk4.up s5) stb
   cases c:H D with
   |none=>rfl
   | some o=>
    exfalso
    by_cases z:D=Bx K
    ·obtain ⟨ps4,t4,_⟩:=tk4
     rw [←z,hD] at t4
     cases t4
    ·rw [s4 D o (fun z=>by rw [z,hN0] at c;cases c) (hz D o z c)] at hD
     cases hD
def Hh (K:PySem.W.Frag)(ns:List Int):Sp:=fun vs H Q _=>match vs with
 |[.ref L]=>∃gs,(Bk K H L gs∧gs.length≤40∧(plr gs).length≤8)∧∀H',Ah H H'→Q .non H'
 |_=>False
theorem N2:Al ["games"] ["games"] (Af F9):=⟨rfl,rfl,rfl,by decide +kernel,rfl,by decide +kernel,by decide +kernel⟩
theorem Nt (d:B8 K mg "check_size" F9 ["games"])(er:Bg K mg c_Capped c_Early c_Ledger c_NoTable c_Rested c_Rule)(n_len:mg "len"=none)(v_MOST_PLAYERS:Yi mg "MOST_PLAYERS" (.int (8)))(v_MOST_GAMES:Yi mg "MOST_GAMES" (.int (40)))(c_players:Bm P w K mg base "players" ["games"] 1 (Mr K ns)):Bm P w K mg base "check_size" ["games"] 2 (Hh K ns):=by
 refine d.cal (k:=1) N2 (fun vs H Q E h=>?_) (fun f cdv A outer s H vs Q E hr h=>?_)
 ·match vs,h with
  |[.ref L],_=>rfl
 ·match vs,h with
  |[.ref L],hq0=>
   obtain ⟨gs,⟨bk,l40,l8⟩,k⟩:=hq0
   refine ⟨_,(@Ae _ _ _ _ _ (@D8 _ _ _ _ _ _ _ _ (@Bv _ _ _ _ _ _ _ _ Ad3 (@Aw _ _ _ _ _ _ _ _ _ Df (by rfl) n_len (by decide +kernel) (@Aa _ _ _ _ _ (dv 0) Ac (by rfl)) (by decide) (by decide) (by rfl) (by rfl)) (Og v_MOST_GAMES (by rfl)) (@A5 _ _ (by decide) (by decide))) (@Ag _ _ _ G3) A8) (@Ag _ _ _ (@D8 _ _ _ _ _ _ _ _ (@Bv _ _ _ _ _ _ _ _ Ad3 (@Aw _ _ _ _ _ _ _ _ _ Df (by rfl) n_len (by decide +kernel) (@Aa _ _ _ _ _ (@An _ _ _ _ _ _ _ _ _ _ _ c_players hr (by decide) (by rfl) (@Aa _ _ _ _ _ (dv 0) Ac (by rfl)) (by decide) (by rfl) (by rfl)) Ac (by rfl)) (by decide) (by decide) (by rfl) (by rfl)) (Og v_MOST_PLAYERS (by rfl)) (@A5 _ _ (by decide) (by decide))) (@Ag _ _ _ G3) A8))),?_⟩
   obtain ⟨vs,hx,hm,hl⟩:=id bk
   have lv:=hm.len
   refine ⟨_,.inl hx,⟨fun h=>absurd (of_decide_eq_true h) (by omega),fun _=>⟨gs,⟨bk,by omega⟩,fun D H1 s1 n1 e1=>⟨_,.inl (Ay.of e1),⟨fun h=>absurd (of_decide_eq_true h) (by rw [List.length_map];omega),fun _=>k H1 s1⟩⟩⟩⟩⟩
structure LFd (fs:List (Str×V))(A R:Addr)(last:Int):Prop where
 ke:fs.lookup ("kept":Str)=some (.ref A)
 la:fs.lookup ("last":Str)=some (.int last)
 ru:fs.lookup ("rule":Str)=some (.ref R)
 ws:fs.lookup ("worths":Str)=none
 wt:fs.lookup ("worth":Str)=none
 pu:fs.lookup ("put":Str)=none
 ta:fs.lookup ("take":Str)=none
 ga:fs.lookup ("games":Str)=none
 len:fs.length≤100
def Cf (K:PySem.W.Frag)(H:Hp)(L A R:Addr)(es:List En)(last:Int):Prop:=∃C dx fs,H L=some (.ins C dx fs)∧PySem.W.nsIn K mainGlobals "Ledger"=some (some (.ref C))∧LFd fs A R last∧Ag7 H A es
structure Ja (nm:List Str)(es:List En)(last:Int):Prop where
 inc:Ji es
 le:∀e∈es,e.1≤last
 mem:∀e∈es,e.2.a∈nm∧e.2.b∈nm
def Pm (L A T:Addr)(H H':Hp):Prop:=∀b o,b≠L→b≠A→b≠T→H b=some o→H' b=some o
theorem Su {f:Str}{v:V}:∀{fs:List (Str×V)} {u:V},fs.lookup f=some u→(Ba f v fs).length=fs.length
 |[],_,h=>by cases h
 | (g,w)::fs,u,h=>by
  by_cases c:f=g
  ·subst c
   unfold Ba
   rw [if_pos rfl]
   rfl
  ·have h:fs.lookup f=some u:=by
    rw [List.lookup_cons,show (f==g)=false from beq_eq_false_iff_ne.mpr c] at h
    exact h
   unfold Ba
   rw [if_neg fun z=>c z.symm]
   exact congrArg (· + 1) (Su h)
theorem LFd.put {fs:List (Str×V)}{A R:Addr}{last m:Int}(h:LFd fs A R last):LFd (Ba "last" (.int m) fs) A R m:=by
 have:=Su (v:=.int m) h.la
 have:=h.len
 exact ⟨Ai (by decide +kernel) h.ke,Ea,Ai (by decide +kernel) h.ru,Ai (by decide +kernel) h.ws,Ai (by decide +kernel) h.wt,Ai (by decide +kernel) h.pu,Ai (by decide +kernel) h.ta,Ai (by decide +kernel) h.ga,by omega⟩
theorem Adb {H H':Hp}{P x C dx:Addr}{fs:List (Str×V)}{pos:Pos}{q:Str}(h:A3 H P pos q)(s:Sx x H H')(hx:H x=some (.ins C dx fs)):A3 H' P pos q:=by
 obtain ⟨ps,h1,h2,h3⟩:=h
 refine ⟨ps,s _ _ (fun z=>by rw [z,hx] at h1;cases h1) h1,h2,h3.imp id ?_⟩
 rintro ⟨c,e1,e2⟩
 exact ⟨c,e1,s _ _ (fun z=>by rw [z,hx] at e2;cases e2) e2⟩
def Fa (K:PySem.W.Frag)(ns:List Int):Sp:=fun vs H Q _=>match vs with
 | [.ref L,v]=>∃(A R:Addr) (es:List En) (last:Int) (g:Gm) (nm:List Str),(Cf K H L A R es last∧Ja nm es last∧es.length<40∧nm.length≤8∧Bw H v g∧g.a∈nm∧g.b∈nm∧A3 H (Bx K) Ce Gj) ∧
  ∀r D H' p,Pm L A (Bx K) H H'→H D=none→H' r=some (.tup [.int (last+1),.ref D])→Cf K H' L A R (es++[(last+1,g)]) (last+1)→A3 H' (Bx K) Ce Gj →
   H' D=some (.lst ((Oh (Pd [g.a,g.b] (pg ((N4 (es++[(last+1,g)]) (last+1) g).map (·.2)) p))).map V.str))→Fx (dk ((N4 (es++[(last+1,g)]) (last+1) g).map (·.2))) ((N4 (es++[(last+1,g)]) (last+1) g).map (·.2)).length p→Q (.ref r) H'
 |_=>False
theorem Oc:Al ["self","played"] ["self","played"] (Af F7):=⟨rfl,rfl,rfl,by decide +kernel,rfl,by decide +kernel,by decide +kernel⟩
theorem Oa (d:B0 K [c_Ledger] [] "put" "Ledger.put" F7 ["self","played"])(er:Bg K mg c_Capped c_Early c_Ledger c_NoTable c_Rested c_Rule)(n_list:mg "list"=none)  (c_reached:Bm P w K mg base "reached" ["kept","number"] 5 (Hx K ns))(c_check_size:Bm P w K mg base "check_size" ["games"] 2 (Hh K ns)):Be P w K mg base [c_Ledger] [] "put" ["self","played"] 6 (Fa K ns):=by
 refine d.cal (k:=5) Oc (fun vs H Q E h=>?_) (fun f cdv A outer s H vs Q E hr h=>?_)
 ·match vs,h with
  |[.ref L,v],_=>rfl
 ·match vs,h with
  | [.ref L,v],hq0=>
   obtain ⟨A,R,es,last,g,nm,⟨⟨C,dx,fs,eL,hC,fd,kvs,eA,al⟩,ok,l40,l8,hg,ga,gb,tk⟩,k⟩:=hq0
   refine ⟨_,(@Ae _ _ _ _ _ (@Bs _ _ _ _ (@An _ _ _ _ _ _ _ _ _ _ _ c_check_size hr (by decide) (by rfl) (@Aa _ _ _ _ _ (@Aj _ _ _ _ _ _ _ _ Qf (@Sw _ _ _ _ _ _ _ (by rfl) n_list (@Ax _ _ _ _ _ (dv 0) (by rfl)) rfl (by rfl) (by rfl)) (@Iw _ _ _ _ (@Aa _ _ _ _ _ (dv 1) Ac (by rfl)))) Ac (by rfl)) (by decide) (by rfl) (by rfl)) (by rfl)) (@Ae _ _ _ _ _ (@Ec _ _ _ _ _ _ _ _ (dv 0) (@Aj _ _ _ _ _ _ _ _ Cg (@Ax _ _ _ _ _ (dv 0) (by rfl)) Ab) rfl) (@Ae _ _ _ _ _ (@Je _ _ _ _ _ _ _ _ _ (@u1 _ _ hr.units) (@Ax _ _ _ _ _ (dv 0) (by rfl)) (@Ax _ _ _ _ _ (dv 0) (by rfl)) (dv 1) rfl) (@Ag _ _ _ (@Aq _ _ _ _ (@Ca _ _ _ _ _ (@Aa _ _ _ _ _ (@Ax _ _ _ _ _ (dv 0) (by rfl)) (@Aa _ _ _ _ _ (@An _ _ _ _ _ _ _ _ _ _ _ c_reached hr (by decide) (by rfl) (@Aa _ _ _ _ _ (@Ax _ _ _ _ _ (dv 0) (by rfl)) (@Aa _ _ _ _ _ (@Ax _ _ _ _ _ (dv 0) (by rfl)) Ac (by rfl)) (by rfl)) (by decide) (by rfl) (by rfl)) Ac (by rfl)) (by rfl)))))))),?_⟩
   obtain ⟨pv,rfl,hpv⟩:=id hg
   have cl:Iq K C∧NoAttr K C "kept"∧NoAttr K C "last":=Ao er.y_Ledger hC▸⟨er.l_Ledger,er.na_Ledger_kept,er.na_Ledger_last⟩
   have nLA:A≠L:=fun z=>by rw [z,eL] at eA;cases eA
   refine ⟨L,C,dx,fs,_,rfl,eL,cl.1,cl.2.1,fd.ke,A,kvs,rfl,.inl eA,fun D0 H1 s1 n1 e1=>fun D1 H2 s2 e2=>⟨_,_,s2 _ _ e1,e2,?_,fun P H3 s3 e3=>?_⟩⟩
   ·rw [List.length_map,al.len]
    show es.length+1≤1000
    omega
   have s13:=s1.trans (s2.trans s3)
   have aP:At (Bw H3) (kvs.map (·.2)++[.ref pv]) (es.map (·.2)++[g]):=(Rs (al.imp fun kv e r=>Fi kv e _ _ (A7 s13) r)).snoc ⟨pv,rfl,s13 _ _ hpv⟩
   have lg:(es.map (·.2)++[g]).length=es.length+1:=by rw [List.length_append,List.length_map];rfl
   have memg:∀x∈es.map (·.2)++[g],x.a∈nm∧x.b∈nm:=fun x hx=>by
    rcases List.mem_append.mp hx with h|h
    ·obtain ⟨e,he,rfl⟩:=List.mem_map.mp h
     exact ok.mem e he
    ·rw [List.mem_singleton.mp h]
     exact ⟨ga,gb⟩
   refine ⟨_,⟨⟨_,Ay.of e3,aP,by omega⟩,by omega,Nat.le_trans (Ael memg) l8⟩,fun H4 s4=>?_⟩
   have s04:=s13.trans s4
   have eL4:=s04 _ _ eL
   have eA4:=s04 _ _ eA
   refine ⟨L,C,dx,fs,_,rfl,eL4,cl.1,cl.2.2,fd.la,L,C,dx,fs,rfl,eL4,cl.1,cl.2.2,by have:=fd.len;omega,?_⟩
   have x5:Sx L H4 (upd H4 L (.ins C dx (Ba "last" (.int (last+1)) fs))):=Sx.upd
   have eL5:upd H4 L (.ins C dx (Ba "last" (.int (last+1)) fs)) L=some (.ins C dx (Ba "last" (.int (last+1)) fs)):=Ad
   have fd5:=fd.put (m:=last+1)
   have kt5:Kt H4 (upd H4 L (.ins C dx (Ba "last" (.int (last+1)) fs))):=x5.kt eL4
   have tk5:A3 (upd H4 L (.ins C dx (Ba "last" (.int (last+1)) fs))) (Bx K) Ce Gj:=Adb (tk.up s04) x5 eL4
   generalize upd H4 L (.ins C dx (Ba "last" (.int (last+1)) fs))=H5 at x5 eL5 kt5 tk5
   have eA5:=x5 _ _ nLA eA4
   have lk:kvs.length<41:=by rw [al.len];omega
   refine ⟨L,C,dx,_,_,rfl,eL5,cl.1,cl.2.1,fd5.ke,L,C,dx,_,_,rfl,eL5,cl.1,cl.2.2,fd5.la,A,_,rfl,Q7.k (k:=Sum.inl (last+1)) eA5 (Nat.lt_of_lt_of_le lk (by decide)),?_⟩
   have nn:B5 kvs (Sum.inl (last+1))=none:=Wf al fun e he z=>by
    have:=ok.le e he
    omega
   rw [Sk _ nn]
   have x6:Sx A H5 (upd H5 A (.dK (kvs++[(Sum.inl (last+1),.ref pv)]))):=Sx.upd
   have eA6:upd H5 A (.dK (kvs++[(Sum.inl (last+1),.ref pv)])) A=some (.dK (kvs++[(Sum.inl (last+1),.ref pv)])):=Ad
   have kt6:Kt H5 (upd H5 A (.dK (kvs++[(Sum.inl (last+1),.ref pv)]))):=x6.kt' eA5
   have tk6:A3 (upd H5 A (.dK (kvs++[(Sum.inl (last+1),.ref pv)]))) (Bx K) Ce Gj:=Dg tk5 x6 (.inr ⟨_,eA5⟩)
   have eL6:=x6 _ _ (Ne.symm nLA) eL5
   generalize upd H5 A (.dK (kvs++[(Sum.inl (last+1),.ref pv)]))=H6 at x6 eA6 kt6 tk6 eL6
   have kt06:Kt H H6:=((A7 s04).trans kt5).trans kt6
   have al6:At (Lu H6) (kvs++[(Sum.inl (last+1),.ref pv)]) (es++[(last+1,g)]):=(al.imp fun kv e r=>Fi kv e _ _ kt06 r).snoc ⟨rfl,pv,rfl,kt06 _ _ hpv⟩
   have inc6:Ji (es++[(last+1,g)]):=List.pairwise_append.mpr ⟨ok.inc,List.pairwise_singleton ..,fun a ha b hb=>by
    rw [List.mem_singleton.mp hb]
    have:=ok.le a ha
    show a.1<last+1
    omega⟩
   have fr6:∀b o,b≠L→b≠A→H b=some o→H6 b=some o:=fun b o n1 n2 e=>x6 b o n2 (x5 b o n1 (s04 b o e))
   refine ⟨L,C,dx,_,_,rfl,eL6,cl.1,cl.2.2,fd5.la,L,C,dx,_,_,rfl,eL6,cl.1,cl.2.1,fd5.ke,L,C,dx,_,_,rfl,eL6,cl.1,cl.2.2,fd5.la,?_⟩
   refine ⟨es++[(last+1,g)],g,nm,⟨⟨_,eA6,al6⟩,inc6,by rw [List.length_append];show es.length+1≤40;omega,List.mem_append_right _ (List.mem_singleton.mpr rfl),tk6,l8,fun e he=>?_⟩,fun D H7 p sm nD eD tk7 stb=>fun R H8 s8 e8=>?_⟩
   ·rcases List.mem_append.mp he with h|h
    ·exact ok.mem e h
    ·rw [List.mem_singleton.mp h]
     exact ⟨ga,gb⟩
   obtain ⟨ps,tt,_⟩:=tk6
   have nLT:L≠Bx K:=fun z=>by rw [z,tt] at eL6;cases eL6
   have nAT:A≠Bx K:=fun z=>by rw [z,tt] at eA6;cases eA6
   have kt7:Kt H6 H7:=fun q xs e=>sm q _ (fun z=>by rw [z,tt] at e;cases e) e
   have kt68:=kt7.trans (A7 s8)
   refine k R D H8 p (fun b o n1 n2 n3 e=>s8 b o (sm b o n3 (fr6 b o n1 n2 e))) ?_ e8 ⟨C,dx,_,s8 _ _ (sm _ _ nLT eL6),hC,fd5,_,s8 _ _ (sm _ _ nAT eA6),al6.imp fun kv e r=>Fi kv e _ _ kt68 r⟩ (tk7.up s8) (s8 _ _ eD) stb
   cases c:H D with
   |none=>rfl
   | some o=>
    exfalso
    by_cases z1:D=L
    ·rw [z1,eL6] at nD
     cases nD
    ·by_cases z2:D=A
     ·rw [z2,eA6] at nD
      cases nD
     ·rw [fr6 D o z1 z2 c] at nD
      cases nD
def wo (es:List En)(n:Int):List En:=es.filter fun e=>decide (e.1≠n)
def Ep (K:PySem.W.Frag)(ns:List Int):Sp:=fun vs H Q _=>match vs with
 | [.ref L,.int n]=>∃(A R:Addr) (es:List En) (last:Int) (g:Gm) (nm:List Str),(Cf K H L A R es last∧Ja nm es last∧es.length≤40∧nm.length≤8∧(n,g)∈es∧A3 H (Bx K) Ce Gj) ∧
  ∀D H' p,Pm L A (Bx K) H H'→H D=none→Cf K H' L A R (wo es n) last→A3 H' (Bx K) Ce Gj →
   H' D=some (.lst ((Oh (Pd [g.a,g.b] (pg ((N4 es n g).map (·.2)) p))).map V.str))→Fx (dk ((N4 es n g).map (·.2))) ((N4 es n g).map (·.2)).length p→Q (.ref D) H'
 |_=>False
theorem Gu:Al ["self","number","found"] ["self","number"] (Af Fb):=⟨rfl,rfl,rfl,by decide +kernel,rfl,by decide +kernel,by decide +kernel⟩
theorem Ls (d:B0 K [c_Ledger] [] "take" "Ledger.take" Fb ["self","number"])(er:Bg K mg c_Capped c_Early c_Ledger c_NoTable c_Rested c_Rule)   (c_reached:Bm P w K mg base "reached" ["kept","number"] 5 (Hx K ns)):Be P w K mg base [c_Ledger] [] "take" ["self","number"] 6 (Ep K ns):=by
 refine d.cal (k:=5) Gu (fun vs H Q E h=>?_) (fun f cdv A outer s H vs Q E hr h=>?_)
 ·match vs,h with
  |[.ref L,.int n],_=>rfl
 ·match vs,h with
  |[.ref L,.int n],hq0=>
   obtain ⟨A,R,es,last,g,nm,⟨⟨C,dx,fs,eL,hC,fd,kvs,eA,al⟩,ok,l40,l8,hn,tk⟩,k⟩:=hq0
   refine ⟨_,(@Ae _ _ _ _ _ (@D8 _ _ _ _ _ _ _ _ (@Acx _ _ _ _ _ _ (@u1 _ _ hr.units) (dv 1) (@Ax _ _ _ _ _ (dv 0) (by rfl)) (by with_unfolding_all rfl)) (@Ag _ _ _ G3) A8) (@Ae _ _ _ _ _ (@Au _ _ (2) _ _ _ _ Gu.nd rfl (by trivial) (@An _ _ _ _ _ _ _ _ _ _ _ c_reached hr (by decide) (by rfl) (@Aa _ _ _ _ _ (@Ax _ _ _ _ _ (dv 0) (by rfl)) (@Aa _ _ _ _ _ (dv 1) Ac (by rfl)) (by rfl)) (by decide) (by rfl) (by rfl)) (by rfl) (by trivial)) (@Ae _ _ _ _ _ (@Bs _ _ _ _ (@Aak _ _ _ _ _ _ _ (@Ax _ _ _ _ _ (dv 0) (by rfl)) (dv 1) ⟨rfl,rfl,rfl,rfl⟩) (by rfl)) (@Ag _ _ _ (@Aq _ _ _ _ (dv 2)))))),?_⟩
   have cl:Iq K C∧NoAttr K C "kept":=Ao er.y_Ledger hC▸⟨er.l_Ledger,er.na_Ledger_kept⟩
   have nLA:A≠L:=fun z=>by rw [z,eL] at eA;cases eA
   obtain ⟨v0,hv0,_⟩:=Nj al ok.inc hn
   have g1:Fm H A (.int n) (B5 kvs (Sum.inl n)):=.inl ⟨kvs,Sum.inl _,.inl eA,rfl,rfl⟩
   rw [hv0] at g1
   refine ⟨L,C,dx,fs,_,rfl,eL,cl.1,cl.2,fd.ke,A,_,rfl,g1,⟨fun h=>nb h,fun _=>?_⟩⟩
   refine ⟨L,C,dx,fs,_,rfl,eL,cl.1,cl.2,fd.ke,es,g,nm,⟨⟨kvs,eA,al⟩,ok.inc,l40,hn,tk,l8,ok.mem⟩,fun D H1 p sm nD eD tk1 stb=>?_⟩
   obtain ⟨ps,tt,_⟩:=id tk
   have nLT:L≠Bx K:=fun z=>by rw [z,tt] at eL;cases eL
   have nAT:A≠Bx K:=fun z=>by rw [z,tt] at eA;cases eA
   have eL1:=sm _ _ nLT eL
   have eA1:=sm _ _ nAT eA
   have kt1:Kt H H1:=fun q xs e=>sm q _ (fun z=>by rw [z,tt] at e;cases e) e
   refine ⟨L,C,dx,fs,_,rfl,eL1,cl.1,cl.2,fd.ke,A,rfl,.inl ⟨kvs,.inl eA1⟩,kvs,Sum.inl n,v0,eA1,rfl,hv0,?_⟩
   have x2:Sx A H1 (upd H1 A (.dK (Fl kvs (Sum.inl n)))):=Sx.upd
   have eA2:upd H1 A (.dK (Fl kvs (Sum.inl n))) A=some (.dK (Fl kvs (Sum.inl n))):=Ad
   have kt2:Kt H1 (upd H1 A (.dK (Fl kvs (Sum.inl n)))):=x2.kt' eA1
   have tk2:A3 (upd H1 A (.dK (Fl kvs (Sum.inl n)))) (Bx K) Ce Gj:=Dg tk1 x2 (.inr ⟨_,eA1⟩)
   have nDA:D≠A:=fun z=>by rw [z,eA] at nD;cases nD
   have eL2:=x2 _ _ (Ne.symm nLA) eL1
   have eD2:=x2 _ _ nDA eD
   generalize upd H1 A (.dK (Fl kvs (Sum.inl n)))=H2 at x2 eA2 kt2 tk2 eL2 eD2
   exact k D H2 p (fun b o n1 n2 n3 e=>x2 b o n2 (sm b o n3 e)) nD ⟨C,dx,fs,eL2,hC,fd,_,eA2,Wv (al.imp fun kv e r=>Fi kv e _ _ (kt1.trans kt2) r) n⟩ tk2 eD2 stb
def Co (K:PySem.W.Frag)(ns:List Int):Sp:=fun vs H Q _=>match vs with
 |[.ref L]=>∃(A R:Addr) (es:List En) (last:Int),(Cf K H L A R es last∧es.length≤40∧A3 H (Bx K) Ce Gj) ∧
  ∀D vs H' p,Xt (Bx K) H H'→H D=none→H' D=some (.lst vs)→A3 H' (Bx K) Ce Gj→Fx (dk (es.map (·.2))) (es.map (·.2)).length p→At (Bw H') vs (pg (es.map (·.2)) p)→Q (.ref D) H'
 |_=>False
theorem K9:Al ["self"] ["self"] (Af Ek):=⟨rfl,rfl,rfl,by decide +kernel,rfl,by decide +kernel,by decide +kernel⟩
theorem K6 (d:B0 K [c_Ledger] [] "games" "Ledger.games" Ek ["self"])(er:Bg K mg c_Capped c_Early c_Ledger c_NoTable c_Rested c_Rule)(n_list:mg "list"=none)  (c_in_order:Bm P w K mg base "in_order" ["games"] 3 (Ex K ns)):Be P w K mg base [c_Ledger] [] "games" ["self"] 4 (Co K ns):=by
 refine d.cal (k:=3) K9 (fun vs H Q E h=>?_) (fun f cdv A outer s H vs Q E hr h=>?_)
 ·match vs,h with
  |[.ref L],_=>rfl
 ·match vs,h with
  |[.ref L],hq0=>
   obtain ⟨A,R,es,last,⟨⟨C,dx,fs,eL,hC,fd,kvs,eA,al⟩,l40,tk⟩,k⟩:=hq0
   refine ⟨_,(@Ag _ _ _ (@Aq _ _ _ _ (@An _ _ _ _ _ _ _ _ _ _ _ c_in_order hr (by decide) (by rfl) (@Aa _ _ _ _ _ (@Sw _ _ _ _ _ _ _ (by rfl) n_list (@Ax _ _ _ _ _ (dv 0) (by rfl)) rfl (by rfl) (by rfl)) Ac (by rfl)) (by decide) (by rfl) (by rfl)))),?_⟩
   have cl:Iq K C∧NoAttr K C "kept":=Ao er.y_Ledger hC▸⟨er.l_Ledger,er.na_Ledger_kept⟩
   refine ⟨L,C,dx,fs,_,rfl,eL,cl.1,cl.2,fd.ke,A,kvs,rfl,.inl eA,fun D0 H1 s1 n1 e1=>?_⟩
   have a1:=Rs (al.imp fun kv e r=>Fi kv e _ _ (A7 s1) r)
   refine ⟨_,_,⟨Ay.of e1,a1,by rw [List.length_map];omega,tk.up s1⟩,fun D H2 p sm nD eD tk2 stb=>?_⟩
   obtain ⟨ps,tt,_⟩:=tk.up s1
   have kt2:Kt H1 H2:=fun q xs e=>sm q _ (fun z=>by rw [z,tt] at e;cases e) e
   exact k D _ H2 p (fun b o ne e=>sm b o ne (s1 b o e)) (Bl s1 nD) eD tk2 stb (S5 (a1.imp fun v g r=>B6 v g _ _ kt2 r) fun i hi=>stb.2.1 i hi)
def Ir (K:PySem.W.Frag)(H:Hp)(a:Addr)(so st fi one two:Int)(rows:List Rw):Prop:=∃C dx fs T,H a=some (.ins C dx fs)∧Kn K so C∧Yb fs so st fi one two T∧TbL H T rows
theorem Ir.up {K:PySem.W.Frag}{H H':Hp}{a:Addr}{so st fi one two:Int}{rows:List Rw}(s:Ah H H'):Ir K H a so st fi one two rows→Ir K H' a so st fi one two rows:=fun ⟨C,dx,fs,T,e,kn,f,vs,t1,t2⟩=>⟨C,dx,fs,T,s _ _ e,kn,f,vs,s _ _ t1,t2.imp fun v g r=>Cm v g _ _ (A7 s) r⟩
theorem Ir.at {K:PySem.W.Frag}{H:Hp}{a:Addr}{so st fi one two:Int}{rows:List Rw}:Ir K H a so st fi one two rows→K8 K H a so st fi one two rows:=fun ⟨C,dx,fs,T,e,kn,f,tb⟩=>⟨C,dx,fs,T,e,kn,f,tb.at⟩
def F1 (K:PySem.W.Frag)(ns:List Int):Sp:=fun vs H Q _=>match vs with
 |[.ref a]=>∃(st fi one two:Int) (rows:List Rw),(Ir K H a 0 st fi one two rows∧D6 rows)∧∀r H',Ah H H'→H r=none→Ir K H' r 0 st fi one two rows→Q (.ref r) H'
 |_=>False
theorem Q4:Al ["self"] ["self"] (Af Gs):=⟨rfl,rfl,rfl,by decide +kernel,rfl,by decide +kernel,by decide +kernel⟩
theorem Rg (d:B0 K [c_Rule] [] "twin" "Rule.twin" Gs ["self"])(er:Bg K mg c_Capped c_Early c_Ledger c_NoTable c_Rested c_Rule)   (c_Rule___init__:Be P w K mg base [c_Rule] [c_Rule] "__init__" ["self","step","first","table"] 6 (Bp K ns)):Be P w K mg base [c_Rule] [] "twin" ["self"] 8 (F1 K ns):=by
 refine d.cal (k:=7) Q4 (fun vs H Q E h=>?_) (fun f cdv A outer s H vs Q E hr h=>?_)
 ·match vs,h with
  |[.ref a],_=>rfl
 ·match vs,h with
  | [.ref a],hq0=>
   obtain ⟨st,fi,one,two,rows,⟨⟨C,dx,fs,T,e,kn,f,vs,eT,al⟩,good⟩,k⟩:=hq0
   refine ⟨_,(@Ag _ _ _ (@Aq _ _ _ _ (Fg c_Rule___init__ (List.Mem.head _) er.m_Rule hr (by decide) (by rfl) er.b_Rule (@Aa _ _ _ _ _ (@Ax _ _ _ _ _ (dv 0) (by rfl)) (@Aa _ _ _ _ _ (@Ax _ _ _ _ _ (dv 0) (by rfl)) (@Aa _ _ _ _ _ (@Ax _ _ _ _ _ (dv 0) (by rfl)) Ac (by rfl)) (by rfl)) (by rfl))))),?_⟩
   have hC:C=c_Rule:=by
    rcases kn with ⟨z,y⟩|⟨z,y⟩|⟨z,y⟩|⟨z,y⟩
    ·first|exact Ao y er.y_Rule|exact absurd z (by decide)
    ·first|exact Ao y er.y_Rule|exact absurd z (by decide)
    ·first|exact Ao y er.y_Rule|exact absurd z (by decide)
    ·first|exact Ao y er.y_Rule|exact absurd z (by decide)
   subst hC
   refine ⟨a,_,dx,fs,_,rfl,e,er.l_Rule,er.na_Rule_step,f.st,a,_,dx,fs,_,rfl,e,er.l_Rule,er.na_Rule_first,f.fi,a,_,dx,fs,_,rfl,e,er.l_Rule,er.na_Rule_table,f.tb,fun x dx' hx hd' ne=>?_⟩
   have s1:=Gb (C:=C) hx hd' ne
   have e1:upd (upd H dx' (.own x)) x (.ins C dx' []) x=some (.ins C dx' []):=Ad
   generalize upd (upd H dx' (.own x)) x (.ins C dx' [])=H1 at s1 e1
   have a1:=al.imp fun v g r=>Cm v g _ _ (A7 s1) r
   have fin:∀{T':Addr} {fs':List (Str×V)} {H2:Hp},Sx x H1 H2→H2 T'=some (.lst vs)→H2 x=some (.ins C dx' fs')→Yb fs' 0 st fi one two T'→Q (.ref x) H2:=fun {T' fs' H2} s2 eT' ex f'=>k x H2 (fun b o eb=>s2 b o (fun z=>by rw [z,hx] at eb;cases eb) (s1 b o eb)) hx ⟨C,dx',fs',T',ex,kn,f',vs,eT',a1.imp fun v g r=>Cm v g _ _ (s2.kt e1) r⟩
   refine ⟨_,dx',[],rows,vs,⟨e1,er.l_Rule,er.na_Rule_step,er.na_Rule_first,er.na_Rule_table,by decide,s1 _ _ eT,a1,good⟩,fun T' H2 s2 nT n1 eT' ex=>⟨rfl,?_⟩⟩
   have f0:=fd0 (st:=st) (fi:=fi) (T:=T') (fs:=[]) rfl
   exact fin s2 eT' ex ⟨f0.st,f0.fi,f0.tb,f0.sz,f0.bt,f0.tw,fun h=>absurd h (by decide),fun h=>absurd h (by decide),fun h=>absurd h (by decide)⟩
def Fe (K:PySem.W.Frag)(ns:List Int):Sp:=fun vs H Q _=>match vs with
 |[.ref a]=>∃(st fi one two:Int) (rows:List Rw),(Ir K H a 1 st fi one two rows∧D6 rows)∧∀r H',Ah H H'→H r=none→Ir K H' r 1 st fi one two rows→Q (.ref r) H'
 |_=>False
theorem Od:Al ["self"] ["self"] (Af Gd):=⟨rfl,rfl,rfl,by decide +kernel,rfl,by decide +kernel,by decide +kernel⟩
theorem N3 (d:B0 K [c_Early] [] "twin" "Early.twin" Gd ["self"])(er:Bg K mg c_Capped c_Early c_Ledger c_NoTable c_Rested c_Rule)   (c_Early___init__:Be P w K mg base [c_Early] [] "__init__" ["self","step","first","table","early","many"] 7 (C3 K ns)):Be P w K mg base [c_Early] [] "twin" ["self"] 9 (Fe K ns):=by
 refine d.cal (k:=8) Od (fun vs H Q E h=>?_) (fun f cdv A outer s H vs Q E hr h=>?_)
 ·match vs,h with
  |[.ref a],_=>rfl
 ·match vs,h with
  | [.ref a],hq0=>
   obtain ⟨st,fi,one,two,rows,⟨⟨C,dx,fs,T,e,kn,f,vs,eT,al⟩,good⟩,k⟩:=hq0
   refine ⟨_,(@Ag _ _ _ (@Aq _ _ _ _ (Fg c_Early___init__ (List.Mem.head _) er.m_Early hr (by decide) (by rfl) er.b_Early (@Aa _ _ _ _ _ (@Ax _ _ _ _ _ (dv 0) (by rfl)) (@Aa _ _ _ _ _ (@Ax _ _ _ _ _ (dv 0) (by rfl)) (@Aa _ _ _ _ _ (@Ax _ _ _ _ _ (dv 0) (by rfl)) (@Aa _ _ _ _ _ (@Ax _ _ _ _ _ (dv 0) (by rfl)) (@Aa _ _ _ _ _ (@Ax _ _ _ _ _ (dv 0) (by rfl)) Ac (by rfl)) (by rfl)) (by rfl)) (by rfl)) (by rfl))))),?_⟩
   have hC:C=c_Early:=by
    rcases kn with ⟨z,y⟩|⟨z,y⟩|⟨z,y⟩|⟨z,y⟩
    ·first|exact Ao y er.y_Early|exact absurd z (by decide)
    ·first|exact Ao y er.y_Early|exact absurd z (by decide)
    ·first|exact Ao y er.y_Early|exact absurd z (by decide)
    ·first|exact Ao y er.y_Early|exact absurd z (by decide)
   subst hC
   refine ⟨a,_,dx,fs,_,rfl,e,er.l_Early,er.na_Early_step,f.st,a,_,dx,fs,_,rfl,e,er.l_Early,er.na_Early_first,f.fi,a,_,dx,fs,_,rfl,e,er.l_Early,er.na_Early_table,f.tb,a,_,dx,fs,_,rfl,e,er.l_Early,er.na_Early_early,(f.x1 rfl).1,a,_,dx,fs,_,rfl,e,er.l_Early,er.na_Early_many,(f.x1 rfl).2,fun x dx' hx hd' ne=>?_⟩
   have s1:=Gb (C:=C) hx hd' ne
   have e1:upd (upd H dx' (.own x)) x (.ins C dx' []) x=some (.ins C dx' []):=Ad
   generalize upd (upd H dx' (.own x)) x (.ins C dx' [])=H1 at s1 e1
   have a1:=al.imp fun v g r=>Cm v g _ _ (A7 s1) r
   have fin:∀{T':Addr} {fs':List (Str×V)} {H2:Hp},Sx x H1 H2→H2 T'=some (.lst vs)→H2 x=some (.ins C dx' fs')→Yb fs' 1 st fi one two T'→Q (.ref x) H2:=fun {T' fs' H2} s2 eT' ex f'=>k x H2 (fun b o eb=>s2 b o (fun z=>by rw [z,hx] at eb;cases eb) (s1 b o eb)) hx ⟨C,dx',fs',T',ex,kn,f',vs,eT',a1.imp fun v g r=>Cm v g _ _ (s2.kt e1) r⟩
   exact ⟨_,dx',rows,vs,⟨e1,er.y_Early,s1 _ _ eT,a1,good⟩,fun T' fs' H2 s2 nT n1 eT' ex f'=>⟨rfl,fin s2 eT' ex f'⟩⟩
def Ei (K:PySem.W.Frag)(ns:List Int):Sp:=fun vs H Q _=>match vs with
 |[.ref a]=>∃(st fi one two:Int) (rows:List Rw),(Ir K H a 2 st fi one two rows∧D6 rows)∧∀r H',Ah H H'→H r=none→Ir K H' r 2 st fi one two rows→Q (.ref r) H'
 |_=>False
theorem M0:Al ["self"] ["self"] (Af E5):=⟨rfl,rfl,rfl,by decide +kernel,rfl,by decide +kernel,by decide +kernel⟩
theorem Mi (d:B0 K [c_Rested] [] "twin" "Rested.twin" E5 ["self"])(er:Bg K mg c_Capped c_Early c_Ledger c_NoTable c_Rested c_Rule)   (c_Rested___init__:Be P w K mg base [c_Rested] [] "__init__" ["self","step","first","table","pause","times"] 7 (Cv K ns)):Be P w K mg base [c_Rested] [] "twin" ["self"] 9 (Ei K ns):=by
 refine d.cal (k:=8) M0 (fun vs H Q E h=>?_) (fun f cdv A outer s H vs Q E hr h=>?_)
 ·match vs,h with
  |[.ref a],_=>rfl
 ·match vs,h with
  | [.ref a],hq0=>
   obtain ⟨st,fi,one,two,rows,⟨⟨C,dx,fs,T,e,kn,f,vs,eT,al⟩,good⟩,k⟩:=hq0
   refine ⟨_,(@Ag _ _ _ (@Aq _ _ _ _ (Fg c_Rested___init__ (List.Mem.head _) er.m_Rested hr (by decide) (by rfl) er.b_Rested (@Aa _ _ _ _ _ (@Ax _ _ _ _ _ (dv 0) (by rfl)) (@Aa _ _ _ _ _ (@Ax _ _ _ _ _ (dv 0) (by rfl)) (@Aa _ _ _ _ _ (@Ax _ _ _ _ _ (dv 0) (by rfl)) (@Aa _ _ _ _ _ (@Ax _ _ _ _ _ (dv 0) (by rfl)) (@Aa _ _ _ _ _ (@Ax _ _ _ _ _ (dv 0) (by rfl)) Ac (by rfl)) (by rfl)) (by rfl)) (by rfl)) (by rfl))))),?_⟩
   have hC:C=c_Rested:=by
    rcases kn with ⟨z,y⟩|⟨z,y⟩|⟨z,y⟩|⟨z,y⟩
    ·first|exact Ao y er.y_Rested|exact absurd z (by decide)
    ·first|exact Ao y er.y_Rested|exact absurd z (by decide)
    ·first|exact Ao y er.y_Rested|exact absurd z (by decide)
    ·first|exact Ao y er.y_Rested|exact absurd z (by decide)
   subst hC
   refine ⟨a,_,dx,fs,_,rfl,e,er.l_Rested,er.na_Rested_step,f.st,a,_,dx,fs,_,rfl,e,er.l_Rested,er.na_Rested_first,f.fi,a,_,dx,fs,_,rfl,e,er.l_Rested,er.na_Rested_table,f.tb,a,_,dx,fs,_,rfl,e,er.l_Rested,er.na_Rested_pause,(f.x2 rfl).1,a,_,dx,fs,_,rfl,e,er.l_Rested,er.na_Rested_times,(f.x2 rfl).2,fun x dx' hx hd' ne=>?_⟩
   have s1:=Gb (C:=C) hx hd' ne
   have e1:upd (upd H dx' (.own x)) x (.ins C dx' []) x=some (.ins C dx' []):=Ad
   generalize upd (upd H dx' (.own x)) x (.ins C dx' [])=H1 at s1 e1
   have a1:=al.imp fun v g r=>Cm v g _ _ (A7 s1) r
   have fin:∀{T':Addr} {fs':List (Str×V)} {H2:Hp},Sx x H1 H2→H2 T'=some (.lst vs)→H2 x=some (.ins C dx' fs')→Yb fs' 2 st fi one two T'→Q (.ref x) H2:=fun {T' fs' H2} s2 eT' ex f'=>k x H2 (fun b o eb=>s2 b o (fun z=>by rw [z,hx] at eb;cases eb) (s1 b o eb)) hx ⟨C,dx',fs',T',ex,kn,f',vs,eT',a1.imp fun v g r=>Cm v g _ _ (s2.kt e1) r⟩
   exact ⟨_,dx',rows,vs,⟨e1,er.y_Rested,s1 _ _ eT,a1,good⟩,fun T' fs' H2 s2 nT n1 eT' ex f'=>⟨rfl,fin s2 eT' ex f'⟩⟩
def Eo (K:PySem.W.Frag)(ns:List Int):Sp:=fun vs H Q _=>match vs with
 |[.ref a]=>∃(st fi one two:Int) (rows:List Rw),(Ir K H a 3 st fi one two rows∧D6 rows)∧∀r H',Ah H H'→H r=none→Ir K H' r 3 st fi one two rows→Q (.ref r) H'
 |_=>False
theorem M3:Al ["self"] ["self"] (Af E7):=⟨rfl,rfl,rfl,by decide +kernel,rfl,by decide +kernel,by decide +kernel⟩
theorem L9 (d:B0 K [c_Capped] [] "twin" "Capped.twin" E7 ["self"])(er:Bg K mg c_Capped c_Early c_Ledger c_NoTable c_Rested c_Rule)   (c_Capped___init__:Be P w K mg base [c_Capped] [] "__init__" ["self","step","first","table","cap"] 7 (Ct K ns)):Be P w K mg base [c_Capped] [] "twin" ["self"] 9 (Eo K ns):=by
 refine d.cal (k:=8) M3 (fun vs H Q E h=>?_) (fun f cdv A outer s H vs Q E hr h=>?_)
 ·match vs,h with
  |[.ref a],_=>rfl
 ·match vs,h with
  | [.ref a],hq0=>
   obtain ⟨st,fi,one,two,rows,⟨⟨C,dx,fs,T,e,kn,f,vs,eT,al⟩,good⟩,k⟩:=hq0
   refine ⟨_,(@Ag _ _ _ (@Aq _ _ _ _ (Fg c_Capped___init__ (List.Mem.head _) er.m_Capped hr (by decide) (by rfl) er.b_Capped (@Aa _ _ _ _ _ (@Ax _ _ _ _ _ (dv 0) (by rfl)) (@Aa _ _ _ _ _ (@Ax _ _ _ _ _ (dv 0) (by rfl)) (@Aa _ _ _ _ _ (@Ax _ _ _ _ _ (dv 0) (by rfl)) (@Aa _ _ _ _ _ (@Ax _ _ _ _ _ (dv 0) (by rfl)) Ac (by rfl)) (by rfl)) (by rfl)) (by rfl))))),?_⟩
   have hC:C=c_Capped:=by
    rcases kn with ⟨z,y⟩|⟨z,y⟩|⟨z,y⟩|⟨z,y⟩
    ·first|exact Ao y er.y_Capped|exact absurd z (by decide)
    ·first|exact Ao y er.y_Capped|exact absurd z (by decide)
    ·first|exact Ao y er.y_Capped|exact absurd z (by decide)
    ·first|exact Ao y er.y_Capped|exact absurd z (by decide)
   subst hC
   refine ⟨a,_,dx,fs,_,rfl,e,er.l_Capped,er.na_Capped_step,f.st,a,_,dx,fs,_,rfl,e,er.l_Capped,er.na_Capped_first,f.fi,a,_,dx,fs,_,rfl,e,er.l_Capped,er.na_Capped_table,f.tb,a,_,dx,fs,_,rfl,e,er.l_Capped,er.na_Capped_cap,f.x3 rfl,fun x dx' hx hd' ne=>?_⟩
   have s1:=Gb (C:=C) hx hd' ne
   have e1:upd (upd H dx' (.own x)) x (.ins C dx' []) x=some (.ins C dx' []):=Ad
   generalize upd (upd H dx' (.own x)) x (.ins C dx' [])=H1 at s1 e1
   have a1:=al.imp fun v g r=>Cm v g _ _ (A7 s1) r
   have fin:∀{T':Addr} {fs':List (Str×V)} {H2:Hp},Sx x H1 H2→H2 T'=some (.lst vs)→H2 x=some (.ins C dx' fs')→Yb fs' 3 st fi one two T'→Q (.ref x) H2:=fun {T' fs' H2} s2 eT' ex f'=>k x H2 (fun b o eb=>s2 b o (fun z=>by rw [z,hx] at eb;cases eb) (s1 b o eb)) hx ⟨C,dx',fs',T',ex,kn,f',vs,eT',a1.imp fun v g r=>Cm v g _ _ (s2.kt e1) r⟩
   exact ⟨_,dx',rows,vs,⟨e1,er.y_Capped,s1 _ _ eT,a1,good⟩,fun T' fs' H2 s2 nT n1 eT' ex f'=>⟨rfl,fin s2 eT' ex (f' two)⟩⟩
def TwT (K:PySem.W.Frag)(T:List (Addr×Sp)):Prop:=∀so C,Kn K so C→∃sp,(C,sp)∈T∧∀a H st fi one two rows Q,Ir K H a so st fi one two rows→D6 rows→(∀r H',Ah H H'→H r=none→Ir K H' r so st fi one two rows→Q (.ref r) H')→sp [.ref a] H Q E0
theorem Aj1 {K:PySem.W.Frag}{ns:List Int}{c0 c1 c2 c3:Addr}(y0:PySem.W.nsIn K mainGlobals "Rule"=some (some (.ref c0)))(y1:PySem.W.nsIn K mainGlobals "Early"=some (some (.ref c1)))(y2:PySem.W.nsIn K mainGlobals "Rested"=some (some (.ref c2)))(y3:PySem.W.nsIn K mainGlobals "Capped"=some (some (.ref c3))) :
  TwT K [(c0,F1 K ns),(c1,Fe K ns),(c2,Ei K ns),(c3,Eo K ns)]:=by
 rintro so C (⟨rfl,h⟩|⟨rfl,h⟩|⟨rfl,h⟩|⟨rfl,h⟩)
 ·have z:=Ao h y0
  subst z
  exact ⟨_,.head _,fun a H st fi one two rows Q hR g k=>⟨st,fi,one,two,rows,⟨hR,g⟩,k⟩⟩
 ·have z:=Ao h y1
  subst z
  exact ⟨_,.tail _ (.head _),fun a H st fi one two rows Q hR g k=>⟨st,fi,one,two,rows,⟨hR,g⟩,k⟩⟩
 ·have z:=Ao h y2
  subst z
  exact ⟨_,.tail _ (.tail _ (.head _)),fun a H st fi one two rows Q hR g k=>⟨st,fi,one,two,rows,⟨hR,g⟩,k⟩⟩
 ·have z:=Ao h y3
  subst z
  exact ⟨_,.tail _ (.tail _ (.tail _ (.head _))),fun a H st fi one two rows Q hR g k=>⟨st,fi,one,two,rows,⟨hR,g⟩,k⟩⟩
def Ej (K:PySem.W.Frag)(ns:List Int):Sp:=fun vs H Q _=>match vs with
 |[.ref L,.ref a]=>∃(C0 dx0:Addr) (so st fi one two:Int) (rows:List Rw),(H L=some (.ins C0 dx0 [])∧PySem.W.nsIn K mainGlobals "Ledger"=some (some (.ref C0))∧Ir K H a so st fi one two rows∧D6 rows)∧∀A R H',Sx L H H'→H A=none→A≠L→H R=none→Cf K H' L A R [] 0→Ir K H' R so st fi one two rows→Q .non H'
 |_=>False
theorem Ij:Al ["self","rule"] ["self","rule"] (Af C1):=⟨rfl,rfl,rfl,by decide +kernel,rfl,by decide +kernel,by decide +kernel⟩
theorem Hw (d:B0 K [c_Ledger] [] "__init__" "Ledger.__init__" C1 ["self","rule"])(er:Bg K mg c_Capped c_Early c_Ledger c_NoTable c_Rested c_Rule)   (c_Capped_twin:Be P w K mg base [c_Capped] [] "twin" ["self"] 9 (Eo K ns))(c_Rested_twin:Be P w K mg base [c_Rested] [] "twin" ["self"] 9 (Ei K ns))(c_Early_twin:Be P w K mg base [c_Early] [] "twin" ["self"] 9 (Fe K ns))(c_Rule_twin:Be P w K mg base [c_Rule] [] "twin" ["self"] 8 (F1 K ns)):Be P w K mg base [c_Ledger] [] "__init__" ["self","rule"] 10 (Ej K ns):=by
 refine d.cal (k:=9) Ij (fun vs H Q E h=>?_) (fun f cdv A outer s H vs Q E hr h=>?_)
 ·match vs,h with
  |[.ref L,.ref a],_=>rfl
 ·match vs,h with
  | [.ref L,.ref a],hq0=>
   obtain ⟨C0,dx0,so,st,fi,one,two,rows,⟨eL,hC,hR,good⟩,k⟩:=hq0
   refine ⟨_,(@Ae _ _ _ _ _ (@Ec _ _ _ _ _ _ _ _ (dv 0) (Cl (dv 1) (Az c_Rule_twin (List.Mem.head _) er.l_Rule (by decide) (Az c_Early_twin (List.Mem.head _) er.l_Early (by decide) (Az c_Rested_twin (List.Mem.head _) er.l_Rested (by decide) (Az c_Capped_twin (List.Mem.head _) er.l_Capped (by decide) B3)))) hr) rfl) (@Ae _ _ _ _ _ (@Ec _ _ _ _ _ _ _ _ (dv 0) Gr rfl) (@Ag _ _ _ (@Ec _ _ _ _ _ _ _ _ (dv 0) Ab rfl)))),?_⟩
   have cl:Iq K C0∧NoAttr K C0 "rule"∧NoAttr K C0 "kept"∧NoAttr K C0 "last":=Ao er.y_Ledger hC▸⟨er.l_Ledger,er.na_Ledger_rule,er.na_Ledger_kept,er.na_Ledger_last⟩
   obtain ⟨C,dx,fs,T,e,kn,f,tb⟩:=id hR
   obtain ⟨sp,hm,hs⟩:=Aj1 (ns:=ns) er.y_Rule er.y_Early er.y_Rested er.y_Capped so C kn
   refine ⟨a,C,dx,fs,sp,rfl,e,hm,f.tw,hs a H st fi one two rows _ hR good fun r H1 s1 nr hr=>⟨L,C0,dx0,[],rfl,s1 _ _ eL,cl.1,cl.2.1,by decide,?_⟩⟩
   have nrL:r≠L:=fun z=>by rw [z,eL] at nr;cases nr
   have x2:Sx L H1 (upd H1 L (.ins C0 dx0 (Ba "rule" (.ref r) []))):=Sx.upd
   have e2:upd H1 L (.ins C0 dx0 (Ba "rule" (.ref r) [])) L=some (.ins C0 dx0 (Ba "rule" (.ref r) [])):=Ad
   have kt2:=x2.kt (s1 _ _ eL)
   have sx:∀{H':Hp},Sx L H1 H'→Kt H1 H'→Ir K H' r so st fi one two rows:=fun {H'} sx kt=>by
    obtain ⟨C',dx',fs',T',e',kn',f',vs',t1,t2⟩:=hr
    exact ⟨C',dx',fs',T',sx _ _ nrL e',kn',f',vs',sx _ _ (fun z=>by rw [z,s1 _ _ eL] at t1;cases t1) t1,t2.imp fun v g r=>Cm v g _ _ kt r⟩
   generalize upd H1 L (.ins C0 dx0 (Ba "rule" (.ref r) []))=H2 at x2 e2 kt2
   intro A hA
   have nAL:A≠L:=fun z=>by rw [z,e2] at hA;cases hA
   have s3:Ah H2 (upd H2 A (.dK [])):=Am hA
   have e3:upd H2 A (.dK []) A=some (.dK []):=Ad
   generalize upd H2 A (.dK [])=H3 at s3 e3
   have l1:=Bf "rule" (.ref r) []
   have l2:=Bf "kept" (.ref A) (Ba "rule" (.ref r) [])
   have l3:=Bf "last" (.int 0) (Ba "kept" (.ref A) (Ba "rule" (.ref r) []))
   have l0:([]:List (Str×V)).length=0:=rfl
   have e3L:=s3 _ _ e2
   refine ⟨L,C0,dx0,_,rfl,e3L,cl.1,cl.2.2.1,by omega,L,C0,dx0,_,rfl,Ad,cl.1,cl.2.2.2,by omega,?_⟩
   have x5:Sx L H1 (upd (upd H3 L (.ins C0 dx0 (Ba "kept" (.ref A) (Ba "rule" (.ref r) [])))) L (.ins C0 dx0 (Ba "last" (.int 0) (Ba "kept" (.ref A) (Ba "rule" (.ref r) []))))):=x2.trans (Sx.trans (Sx.of s3) (Sx.trans Sx.upd Sx.upd))
   have kt5:Kt H1 (upd (upd H3 L (.ins C0 dx0 (Ba "kept" (.ref A) (Ba "rule" (.ref r) [])))) L (.ins C0 dx0 (Ba "last" (.int 0) (Ba "kept" (.ref A) (Ba "rule" (.ref r) []))))):=x5.kt (s1 _ _ eL)
   refine k A r _ (Sx.trans (Sx.of s1) x5) ?_ nAL nr ⟨C0,dx0,_,Ad,hC,⟨Ai (by decide +kernel) Ea,Ea,Ai (by decide +kernel) (Ai (by decide +kernel) Ea),Ai (by decide +kernel) (Ai (by decide +kernel) (Ai (by decide +kernel) rfl)),Ai (by decide +kernel) (Ai (by decide +kernel) (Ai (by decide +kernel) rfl)),Ai (by decide +kernel) (Ai (by decide +kernel) (Ai (by decide +kernel) rfl)),Ai (by decide +kernel) (Ai (by decide +kernel) (Ai (by decide +kernel) rfl)),Ai (by decide +kernel) (Ai (by decide +kernel) (Ai (by decide +kernel) rfl)),by omega⟩,[],?_,.nil⟩ (sx x5 kt5)
   ·cases c:H A with
    |none=>rfl
    |some o=>
     rw [x2 A o nAL (s1 _ _ c)] at hA
     cases hA
   ·rw [Ak nAL,Ak nAL]
    exact e3
theorem Cf.smt {K:PySem.W.Frag}{T L A R:Addr}{H H':Hp}{es:List En}{last:Int}{pos:Pos}{q:Str}(sm:Xt T H H')(tk:A3 H T pos q)(h:Cf K H L A R es last):Cf K H' L A R es last:=by
 obtain ⟨ps,tt,_⟩:=tk
 obtain ⟨C,dx,fs,eL,hC,fd,kvs,eA,al⟩:=h
 have kt:Kt H H':=fun p xs e=>sm p _ (fun z=>by rw [z,tt] at e;cases e) e
 exact ⟨C,dx,fs,sm _ _ (fun z=>by rw [z,tt] at eL;cases eL) eL,hC,fd,kvs,sm _ _ (fun z=>by rw [z,tt] at eA;cases eA) eA,al.imp fun kv e r=>Fi kv e _ _ kt r⟩
theorem Cf.up {K:PySem.W.Frag}{H H':Hp}{L A R:Addr}{es:List En}{last:Int}(s:Ah H H')(h:Cf K H L A R es last):Cf K H' L A R es last:=by
 obtain ⟨C,dx,fs,eL,hC,fd,kvs,eA,al⟩:=h
 exact ⟨C,dx,fs,s _ _ eL,hC,fd,kvs,s _ _ eA,al.imp fun kv e r=>Fi kv e _ _ (A7 s) r⟩
theorem Cf.sxl {K:PySem.W.Frag}{H:Hp}{L A R x:Addr}{es:List En}{last:Int}{zs:List V}{o:HO}(h:Cf K H L A R es last)(e:H x=some (.lst zs)):Cf K (upd H x o) L A R es last:=by
 obtain ⟨C,dx,fs,eL,hC,fd,kvs,eA,al⟩:=h
 have kt:Kt H (upd H x o):=Go e
 refine ⟨C,dx,fs,?_,hC,fd,kvs,?_,al.imp fun kv e r=>Fi kv e _ _ kt r⟩
 ·rw [Ak fun z=>by rw [z,e] at eL;cases eL]
  exact eL
 ·rw [Ak fun z=>by rw [z,e] at eA;cases eA]
  exact eA
theorem Ug {gs:List Gm}:∀{p:List Nat},(∀i∈p,i<gs.length)→∀(i:Nat),(pg gs p)[i]? =(p[i]?).bind fun j=>gs[j]?
 |[],_,i=>by
  show ([]:List Gm)[i]? =_
  simp
 | j::p,h,i=>by
  have hj:=h j List.mem_cons_self
  have e:pg gs (j::p)=gs[j]::pg gs p:=by
   unfold pg
   rw [List.filterMap_cons,List.getElem?_eq_getElem hj]
  rw [e]
  cases i with
  |zero=>simp [List.getElem?_eq_getElem hj]
  |succ i=>
   rw [List.getElem?_cons_succ,List.getElem?_cons_succ]
   exact Ug (fun i hi=>h i (List.mem_cons_of_mem _ hi)) i
theorem Um {gs:List Gm}:∀{p:List Nat},(∀i∈p,i<gs.length)→(pg gs p).length=p.length
 |[],_=>rfl
 | j::p,h=>by
  have hj:=h j List.mem_cons_self
  have e:pg gs (j::p)=gs[j]::pg gs p:=by
   unfold pg
   rw [List.filterMap_cons,List.getElem?_eq_getElem hj]
  rw [e,List.length_cons,List.length_cons,Um fun i hi=>h i (List.mem_cons_of_mem _ hi)]
theorem Y7 (gs:List Gm):pg gs (List.range gs.length)=gs:=by
 refine List.ext_getElem? fun i=>?_
 rw [Ug fun i hi=>List.mem_range.mp hi]
 by_cases h:i<gs.length
 ·rw [List.getElem?_range h]
  rfl
 ·rw [List.getElem?_eq_none (by rw [List.length_range];omega),List.getElem?_eq_none (by omega)]
  rfl
theorem Aah {gs:List Gm}{p q:List Nat}(hp:Fx (dk gs) gs.length p)(hq:Fx (dk (pg gs p)) (pg gs p).length q):pg (pg gs p) q=pg gs p:=by
 have l:(pg gs p).length=p.length:=Um hp.2.1
 have dg:∀i (h:i<p.length),dk (pg gs p) i=dk gs p[i]:=fun i h=>by
  unfold dk
  rw [Ug hp.2.1,List.getElem?_eq_getElem h]
  rfl
 have hr:Fx (dk (pg gs p)) (pg gs p).length (List.range (pg gs p).length):=by
  refine ⟨List.length_range,fun i hi=>List.mem_range.mp hi,?_⟩
  refine List.pairwise_iff_getElem.mpr fun i j hi hj ij=>?_
  rw [List.length_range] at hi hj
  rw [List.getElem_range,List.getElem_range]
  show dk (pg gs p) i<dk (pg gs p) j∨dk (pg gs p) i=dk (pg gs p) j∧i<j
  rw [dg i (by omega),dg j (by omega)]
  rcases List.pairwise_iff_getElem.mp hp.2.2 i j (by omega) (by omega) ij with z|⟨z,_⟩
  ·exact .inl z
  ·exact .inr ⟨z,ij⟩
 rw [Aa5 hq hr,Y7]
theorem Agk {gs:List Gm}{p:List Nat}(hp:Fx (dk gs) gs.length p):plr (pg gs p)=plr gs:=Hb (Cn _) (Cn _) fun x=>by
 show x∈plr (pg gs p)↔x∈plr gs
 rw [Ge,Ge]
 exact ⟨fun ⟨g,h,c⟩=>⟨g,(Lf hp).mp h,c⟩,fun ⟨g,h,c⟩=>⟨g,(Lf hp).mpr h,c⟩⟩
def GOk (es:List En):Prop:=∀e∈es,(0≤e.2.h∧e.2.h≤2)∧e.2.a≠e.2.b
def Dj (K:PySem.W.Frag)(ns:List Int):Sp:=fun vs H Q _=>match vs with
 |[.ref L]=>∃(A R:Addr) (es:List En) (last so st fi one two:Int) (rows:List Rw),(Cf K H L A R es last∧K8 K (Hj (Bx K) H) R so st fi one two rows∧Tb rows∧Nb st one two∧Bd 40 fi∧es.length≤30∧GOk es∧A3 H (Bx K) Ce Gj) ∧
  ∀D vs H' p,Xt (Bx K) H H'→H D=none→H' D=some (.lst vs)→A3 H' (Bx K) Ce Gj→Fx (dk (es.map (·.2))) (es.map (·.2)).length p→At (Rx H') vs ((plr (es.map (·.2))).map fun x=>(x,wq fi (K2 so st fi one two rows (fun _=>none) (pg (es.map (·.2)) p) x)))→Q (.ref D) H'
 |_=>False
theorem J1:Al ["self"] ["self"] (Af Eb):=⟨rfl,rfl,rfl,by decide +kernel,rfl,by decide +kernel,by decide +kernel⟩
theorem J9 (d:B0 K [c_Ledger] [] "worths" "Ledger.worths" Eb ["self"])(er:Bg K mg c_Capped c_Early c_Ledger c_NoTable c_Rested c_Rule)   (c_running:Bm P w K mg base "running" ["rule","games"] 10 (Ia K ns))(c_Ledger_games:Be P w K mg base [c_Ledger] [] "games" ["self"] 4 (Co K ns)):Be P w K mg base [c_Ledger] [] "worths" ["self"] 11 (Dj K ns):=by
 refine d.cal (k:=10) J1 (fun vs H Q E h=>?_) (fun f cdv A outer s H vs Q E hr h=>?_)
 ·match vs,h with
  |[.ref L],_=>rfl
 ·match vs,h with
  | [.ref L],hq0=>
   obtain ⟨A,R,es,last,so,st,fi,one,two,rows,⟨lg,hR,tb,b,hf,l30,gok,tk⟩,k⟩:=hq0
   refine ⟨_,(@Ag _ _ _ (@Aq _ _ _ _ (@An _ _ _ _ _ _ _ _ _ _ _ c_running hr (by decide) (by rfl) (@Aa _ _ _ _ _ (@Ax _ _ _ _ _ (dv 0) (by rfl)) (@Aa _ _ _ _ _ (Cl (dv 0) (Az c_Ledger_games (List.Mem.head _) er.l_Ledger (by decide) B3) hr) Ac (by rfl)) (by rfl)) (by decide) (by rfl) (by rfl)))),?_⟩
   obtain ⟨C,dx,fs,eL,hC,fd,kp⟩:=id lg
   have cl:Iq K C∧NoAttr K C "rule":=Ao er.y_Ledger hC▸⟨er.l_Ledger,er.na_Ledger_rule⟩
   have hCc:=Ao hC er.y_Ledger
   subst hCc
   refine ⟨L,_,dx,fs,_,rfl,eL,cl.1,cl.2,fd.ru,L,_,dx,fs,_,rfl,eL,.head _,fd.ga,A,R,es,last,⟨lg,by omega,tk⟩,fun F fv H1 p sm nF eF tk1 stb aF=>?_⟩
   obtain ⟨ps,tt,_⟩:=id tk1
   have so1:Ah (Hj (Bx K) H) (Hj (Bx K) H1):=Ww (Qt L1 sm)
   have lpg:(pg (es.map (·.2)) p).length≤30:=by
    rw [Um stb.2.1,stb.1,List.length_map]
    exact l30
   refine ⟨so,st,fi,one,two,rows,_,fv,⟨hR.up so1,tb,b,hf,Ay.of (Vd tt eF fun _=>nofun),aF.imp fun v g r=>B6 v g _ _ (Aa9 tt) r,lpg,fun g hg=>?_,tk1⟩,fun D vs q H2 sm2 nD eD tk2 stb2 aD=>?_⟩
   ·obtain ⟨e,he,rfl⟩:=List.mem_map.mp (Nk hg)
    exact gok e he
   rw [Aah stb stb2,Agk stb] at aD
   refine k D vs H2 p (fun b o ne e=>sm2 b o ne (sm b o ne e)) ?_ eD tk2 stb aD
   cases c:H D with
   |none=>rfl
   | some o=>
    exfalso
    by_cases z:D=Bx K
    ·rw [z,tt] at nD
     cases nD
    ·rw [sm D o z c] at nD
     cases nD
def abz:Str:=Str.ofString "abcdefghijklmnopqrstuvwxyz"
def lz:List Nat:=[97,98,99,100,101,102,103,104,105,106,107,108,109,110,111,112,113,114,115,116,117,118,119,120,121,122]
def Vv (n:Int):Nat:=lz.getD (n % 26).toNat 0
theorem Wx {n:Int}(h0:0≤n % 26)(h1:n % 26<26):Nv abz.cps.toList (n % 26)=some (Vv n):=by
 have e:abz.cps.toList=lz:=by decide +kernel
 obtain ⟨m,hm⟩:∃m:Nat,n % 26=m:=⟨_,(Int.toNat_of_nonneg h0).symm⟩
 have l:m<lz.length:=by show m<26;omega
 rw [e,hm]
 refine C5 ?_
 unfold Vv
 rw [hm,Int.toNat_natCast,List.getD_eq_getElem?_getD,List.getElem?_eq_getElem l]
 rfl
theorem Abo (n:Int):Vv n<123:=by
 have a:∀m:Nat,m<26→lz.getD m 0<123:=by decide
 have h0:=Int.emod_nonneg n (show (26:Int)≠0 by decide)
 have h1:=Int.emod_lt_of_pos n (show (0:Int)<26 by decide)
 exact a _ (by omega)
theorem Aes {m n:Int}(h:Vv m=Vv n):m % 26=n % 26:=by
 have a:∀i:Nat,i<26→∀j:Nat,j<26→lz.getD i 0=lz.getD j 0→i=j:=by decide
 have h0:=Int.emod_nonneg m (show (26:Int)≠0 by decide)
 have h1:=Int.emod_lt_of_pos m (show (0:Int)<26 by decide)
 have h2:=Int.emod_nonneg n (show (26:Int)≠0 by decide)
 have h3:=Int.emod_lt_of_pos n (show (0:Int)<26 by decide)
 have:=a _ (show (m % 26).toNat<26 by omega) _ (show (n % 26).toNat<26 by omega) h
 omega
def S8 (c:Int):List Nat:=(List.range 8).map fun j:Nat=>Vv (c / (5+5*(0+(j:Int))))
theorem Se (c:Int):(S8 c).length=8:=rfl
theorem Rh {c:Int}:∀e∈S8 c,e<123:=fun e he=>by
 obtain ⟨j,_,rfl⟩:=List.mem_map.mp he
 exact Abo _
def Z8 (c:Int)(at' sz:Nat)(k:Nat):List Nat:=(S8 c).take at'++[Vv (c / 200+3*(k:Int))]++((S8 c).drop (at'+1)).take (sz-(at'+1))
theorem Acm {c:Int}{at' sz k:Nat}:∀e∈Z8 c at' sz k,e<123:=fun e he=>by
 rcases List.mem_append.mp he with he|he
 ·rcases List.mem_append.mp he with he|he
  ·exact Rh e (List.mem_of_mem_take he)
  ·rw [List.mem_singleton.mp he]
   exact Abo _
 ·exact Rh e (List.mem_of_mem_drop (List.mem_of_mem_take he))
theorem Ace {c:Int}{at' sz i j:Nat}(hi:i<8)(hj:j<8)(h:Z8 c at' sz i=Z8 c at' sz j):i=j:=by
 unfold Z8 at h
 rw [List.append_assoc,List.append_assoc] at h
 have h:=List.append_cancel_left h
 have h:Vv (c / 200+3*(i:Int))=Vv (c / 200+3*(j:Int)):=by
  have:=congrArg (fun l:List Nat=>l[0]?) h
  simpa using this
 have h:=Aes h
 omega
theorem Acc {x:Str}(h:∀e∈co x,e<123):PyData.strOk x=true:=Ai6 fun e he=>Nat.lt_trans (h e he) (by decide)
def L4 (K:PySem.W.Frag)(ns:List Int):Sp:=fun vs H Q _=>match vs with
 |[.int c,.int m]=>(0≤m∧m≤8)∧∀L (nm:List Str) H',Ah H H'→H' L=some (.lst (nm.map V.str))→(nm.length:Int)=m→nm.Nodup→(∀x∈nm,PyData.strOk x=true)→Q (.ref L) H'
 |_=>False
theorem Ci:Al ["_law_cell_here","_law_many","_law_letters","_law_base","_law_size","_law_at","_law_names_here","_law_k","_law_letter"] ["_law_cell_here","_law_many"] (Af Jy):=⟨rfl,rfl,rfl,by decide +kernel,rfl,by decide +kernel,by decide +kernel⟩
theorem Uj (d:B8 K mg "_law_names" Jy ["_law_cell_here","_law_many"])(er:Bg K mg c_Capped c_Early c_Ledger c_NoTable c_Rested c_Rule)(n_range:mg "range"=none)  :Bm P w K mg base "_law_names" ["_law_cell_here","_law_many"] 1 (L4 K ns):=by
 refine d.cal (k:=0) Ci (fun vs H Q E h=>?_) (fun f cdv A outer s H vs Q E hr h=>?_)
 ·match vs,h with
  |[.int c,.int m],_=>rfl
 ·match vs,h with
  | [.int c,.int m],hq0=>
   obtain ⟨⟨m0,m8⟩,q⟩:=hq0
   refine ⟨_,(@Ae _ _ _ _ _ (@Au _ _ (2) _ _ _ _ Ci.nd rfl (by trivial) Abn (by rfl) (by trivial)) (@Ae _ _ _ _ _ (@Au _ _ (3) _ _ _ _ Ci.nd rfl (by trivial) (@Agf _ _ _ _ _ ("join") _ _ Abn (@Aa _ _ _ _ _ (@Fy _ _ _ _ _ _ _ _ _ _ ["_law_k"] ["_law_letters","_law_cell_here"] [2,0] rfl (@Di _ _ _ _ _ _ (by rfl) n_range (@Aa _ _ _ _ _ Ab Ac (by rfl)) (by rfl)) (fun C s H fp=>(@A6 _ _ (0) _ (show List.Nodup [("_law_k":Str),("_law_letters":Str),("_law_cell_here":Str)] by decide +kernel) rfl (by trivial) (by trivial))) (fun C s H fp=>(@Ap _ _ _ _ _ _ _ Afg (dv 1) (@Aj _ _ _ _ _ _ _ _ Bn (@Aj _ _ _ _ _ _ _ _ Ew (dv 2) (@Aj _ _ _ _ _ _ _ _ Cg Ab (@Aj _ _ _ _ _ _ _ _ Cw Ab (dv 0)))) Ab) (fun _ _=>rfl))) rfl rfl (by decide +kernel) (by decide +kernel) (by rfl) ⟨rfl,⟨rfl,True.intro⟩⟩ ⟨⟨rfl,rfl,rfl,rfl⟩,⟨⟨rfl,rfl,rfl,rfl⟩,True.intro⟩⟩ (by intro _;rfl)) Ac (by rfl)) (by rfl) (by rfl) (by rfl) (by rfl) (by rfl)) (by rfl) (by trivial)) (@Ae _ _ _ _ _ (@Au _ _ (4) _ _ _ _ Ci.nd rfl (by trivial) (@Aj _ _ _ _ _ _ _ _ Cg Ab (@Aj _ _ _ _ _ _ _ _ Bn (dv 0) Ab)) (by rfl) (by trivial)) (@Ae _ _ _ _ _ (@D8 _ _ _ _ _ _ _ _ (@Bv _ _ _ _ _ _ _ _ N5 (@Aj _ _ _ _ _ _ _ _ Bn (@Aj _ _ _ _ _ _ _ _ Ew (dv 0) Ab) Ab) Ab (@A5 _ _ (by decide) (by decide))) (@Ag _ _ _ (@Aq _ _ _ _ (@Fy _ _ _ _ _ _ _ _ _ _ ["_law_k"] ["_law_base","_law_size"] [3,4] rfl (@Di _ _ _ _ _ _ (by rfl) n_range (@Aa _ _ _ _ _ (dv 1) Ac (by rfl)) (by rfl)) (fun C s H fp=>(@A6 _ _ (0) _ (show List.Nodup [("_law_k":Str),("_law_base":Str),("_law_size":Str)] by decide +kernel) rfl (by trivial) (by trivial))) (fun C s H fp=>(@C2 _ _ _ _ _ _ _ _ _ _ U0 (dv 1) Jg (Cj (Aj Cg Ab (Aj Bn (Aj Cg (dv 2) (dv 0)) Ab))))) rfl rfl (by decide +kernel) (by decide +kernel) (by rfl) ⟨rfl,⟨rfl,True.intro⟩⟩ ⟨⟨rfl,rfl,rfl,rfl⟩,⟨⟨rfl,rfl,rfl,rfl⟩,True.intro⟩⟩ (by intro _;rfl)))) A8) (@Eu _ _ _ _ _ (@Au _ _ (5) _ _ _ _ Ci.nd rfl (by trivial) (@Aj _ _ _ _ _ _ _ _ Bn (@Aj _ _ _ _ _ _ _ _ Ew (dv 0) Ab) (dv 4)) (by rfl) (by trivial)) (@Ae _ _ _ _ _ (@Au _ _ (6) _ _ _ _ Ci.nd rfl (by trivial) (@Do _ _ _ _ Ac) (by rfl) (by trivial)) (@Ae _ _ _ _ _ (@G7 _ _ _ _ _ _ _ _ PassesOwn.never rfl (@Di _ _ _ _ _ _ (by rfl) n_range (@Aa _ _ _ _ _ (dv 1) Ac (by rfl)) (by rfl)) (@A6 _ _ (7) _ Ci.nd rfl (by trivial) (by trivial)) (@Ae _ _ _ _ _ (@Au _ _ (8) _ _ _ _ Ci.nd rfl (by trivial) (@Ap _ _ _ _ _ _ _ Afg (dv 2) (@Aj _ _ _ _ _ _ _ _ Bn (@Aj _ _ _ _ _ _ _ _ Cg (@Aj _ _ _ _ _ _ _ _ Ew (dv 0) Ab) (@Aj _ _ _ _ _ _ _ _ Cw Ab (dv 7))) Ab) (fun _ _=>rfl)) (by rfl) (by trivial)) (@Ag _ _ _ (@Bs _ _ _ _ (@G4 _ _ _ _ _ _ _ _ _ _ _ _ PySem.F.plainAttrs_list PySem.F.slot_list_append PySem.F.type_list_append Dm (dv 6) (@Aa _ _ _ _ _ (@Aj _ _ _ _ _ _ _ _ Aai (@Aj _ _ _ _ _ _ _ _ Aai (@C2 _ _ _ _ _ _ _ _ _ _ U0 (dv 3) Jg (Cj (dv 5))) (dv 8)) (@C2 _ _ _ _ _ _ _ _ _ _ U0 (dv 3) (Cj (Aj Cg (dv 5) Ab)) (Cj (dv 4)))) Ac (by rfl)) (by rfl) (by rfl) (by rfl) (by rfl) (by rfl)) (by rfl)))) (by intro _;rfl)) (@Ag _ _ _ (@Aq _ _ _ _ (dv 6)))))))))),?_⟩
   refine ⟨rfl,8,rfl,by decide,by decide,S0 (n:=8) (fun j=>V.str ⟨#[Vv (c / (5+5*(0+(j:Int))))]⟩) (by decide) ?_ ?_⟩
   ·intro i H2 hi s2 P hP
    have e0:=Int.emod_nonneg (c / (5+5*(0+(i:Int)))) (show (26:Int)≠0 by decide)
    have e1:=Int.emod_lt_of_pos (c / (5+5*(0+(i:Int)))) (show (0:Int)<26 by decide)
    have bd:Bd 4000 (5+5*(0+(i:Int))):=Dy (b:=100) (by omega) (by omega) (A0 rfl)
    exact ⟨rfl,.inr (.inl ⟨by decide,by decide⟩),⟨by show 0<5+5*(0+(i:Int));omega,bd⟩,(by show (0:Int)<26;decide),_,by decide +kernel,Wx e0 e1,hP⟩
   intro D H2 s2 e2
   refine ⟨(List.range 8).map fun j:Nat=>⟨#[Vv (c / (5+5*(0+(j:Int))))]⟩,Ay.of ?_,Nat.le_of_ble_eq_true rfl,?_⟩
   ·rw [e2,List.map_map]
    rfl
   have hb:co (Txt.join (Str.ofString "") ((List.range 8).map fun j:Nat=>⟨#[Vv (c / (5+5*(0+(j:Int))))]⟩))=S8 c:=by
    rw [Ajl,List.map_map]
    rfl
   generalize Txt.join (Str.ofString "") ((List.range 8).map fun j:Nat=>(⟨#[Vv (c / (5+5*(0+(j:Int))))]⟩:Str))=b at hb
   have lb:b.length=8:=by rw [←Md,hb,Se]
   have zb:b.length≤sizeLine:=by rw [lb];decide
   have z0:=Int.emod_nonneg c (show (8:Int)≠0 by decide)
   have z1:=Int.emod_lt_of_pos c (show (0:Int)<8 by decide)
   refine ⟨(by show (0:Int)<8;decide),⟨by decide,A0 rfl⟩,(by show (0:Int)<3;decide),⟨fun _=>?_,fun _=>?_⟩⟩
   ·refine ⟨_,rfl,by omega,by omega,S0 (n:=m.toNat) (fun k=>V.str (Txt.slice b none (some (1+(1+c % 8+(0+(k:Int))) % 8)))) (by omega) ?_ ?_⟩
    ·intro i H3 hi s3 P hP
     exact ⟨rfl,(by show (0:Int)<8;decide),_,rfl,zb,hP⟩
    intro L H3 s3 e3
    have cs:∀k:Nat,co (Txt.slice b none (some (1+(1+c % 8+(0+(k:Int))) % 8)))=(S8 c).take ((1+(1+c % 8+(0+(k:Int))) % 8).toNat):=fun k=>by
     have w0:=Int.emod_nonneg (1+c % 8+(0+(k:Int))) (show (8:Int)≠0 by decide)
     have w1:=Int.emod_lt_of_pos (1+c % 8+(0+(k:Int))) (show (0:Int)<8 by decide)
     obtain ⟨t,ht⟩:∃t:Nat,1+(1+c % 8+(0+(k:Int))) % 8=t:=⟨_,(Int.toNat_of_nonneg (by omega)).symm⟩
     rw [ht,Afd (by omega),hb,Int.toNat_natCast]
    refine q L ((List.range m.toNat).map fun k:Nat=>Txt.slice b none (some (1+(1+c % 8+(0+(k:Int))) % 8))) H3 (s2.trans s3) (by rw [e3,List.map_map];rfl) (by rw [List.length_map,List.length_range];omega) ?_ fun x hx=>?_
    ·refine List.pairwise_map.mpr (List.nodup_range.imp_of_mem fun {i j} hi hj ne=>fun z=>ne ?_)
     have hi:=List.mem_range.mp hi
     have hj:=List.mem_range.mp hj
     have:=congrArg (fun x=>(co x).length) z
     simp only [cs,List.length_take,Se] at this
     omega
    ·obtain ⟨k,_,rfl⟩:=List.mem_map.mp hx
     refine Acc fun e he=>?_
     rw [cs] at he
     exact Rh e (List.mem_of_mem_take he)
   have y0:=Int.emod_nonneg (c / 24) (show 1+c % 8≠0 by omega)
   have y1:=Int.emod_lt_of_pos (c / 24) (show 0<1+c % 8 by omega)
   refine ⟨fun σ H'=>∃at' sz:Nat,σ=[some (.int c),some (.int m),some (.str abz),some (.str b),some (.int (1+(sz:Int))),some (.int (at':Int)),none,none,none]∧H'=H2∧at'<1+sz∧sz<8,?_,?_⟩
   ·refine ⟨⟨by decide,A0 rfl⟩,by show 0<1+c % 8;omega,(c / 24 % (1+c % 8)).toNat,(c % 8).toNat,?_,rfl,by omega,by omega⟩
    rw [Int.toNat_of_nonneg y0,Int.toNat_of_nonneg z0]
    rfl
   rintro σ H' ⟨at',sz,rfl,rfl,as,s8⟩
   refine ⟨Nat.zero_le _,fun D3 n3=>?_⟩
   refine ⟨m,rfl,by omega,by omega,J4 (lo:=0) (n:=m.toNat) (fun i σ H1=>∃(nm:List Str) (o1 o2:Option V),σ=[some (.int c),some (.int m),some (.str abz),some (.str b),some (.int (1+(sz:Int))),some (.int (at':Int)),some (.ref D3),o1,o2]∧H1=upd H' D3 (.lst (nm.map V.str))∧nm.length=i∧∀(j:Nat) x,nm[j]? =some x→co x=Z8 c at' (1+sz) j)
    ⟨[],none,none,rfl,rfl,rfl,fun j x h=>by simp at h⟩ ?_ ?_⟩
   ·rintro i σ H1 hi ⟨nm,o1,o2,rfl,rfl,hl,hall⟩
    have e0:=Int.emod_nonneg (c / 200+3*(0+(i:Int))) (show (26:Int)≠0 by decide)
    have e1:=Int.emod_lt_of_pos (c / 200+3*(0+(i:Int))) (show (0:Int)<26 by decide)
    refine ⟨⟨by decide,A0 rfl⟩,.inr (.inl ⟨by decide,by decide⟩),(by show (0:Int)<26;decide),_,by decide +kernel,Wx e0 e1,?_⟩
    have l1:(Txt.slice b none (some (at':Int))).length≤8:=Nat.le_trans (Txt.slice_le _ _ _) (by omega)
    have l2:(Txt.slice b (some ((at':Int)+1)) (some (1+(sz:Int)))).length≤8:=Nat.le_trans (Txt.slice_le _ _ _) (by omega)
    have big:(8:Nat)+1+8≤sizeLine:=by decide
    have sl1:co (Txt.slice b none (some (at':Int)))=(S8 c).take at':=by
     rw [Afd (by omega),hb]
    have sl2:co (Txt.slice b (some ((at':Int)+1)) (some (1+(sz:Int))))=((S8 c).drop (at'+1)).take (1+sz-(at'+1)):=by
     have:=Af3 (x:=b) (i:=at'+1) (j:=1+sz) (by omega) (by omega)
     rw [hb] at this
     exact this
    refine ⟨.inl ⟨rfl,_,Ay.of Ad⟩,_,rfl,zb,?_⟩
    refine ⟨Nat.le_trans (Nat.add_le_add l1 (Nat.le_refl 1)) (by decide),_,rfl,_,rfl,zb,?_⟩
    refine ⟨?_,?_⟩
    ·rw [Adm]
     exact Nat.le_trans (Nat.add_le_add (Nat.add_le_add l1 (Nat.le_refl 1)) l2) big
    refine ⟨D3,_,_,rfl,rfl,Ad,?_,nm++[Txt.slice b none (some (at':Int))++⟨#[Vv (c / 200+3*(0+(i:Int)))]⟩++Txt.slice b (some ((at':Int)+1)) (some (1+(sz:Int)))],_,_,rfl,?_,?_,fun j x hx=>?_⟩
    ·rw [List.length_map,hl]
     exact Nat.lt_of_lt_of_le (show i<8 by omega) (by decide)
    ·rw [Qa,List.map_append]
     rfl
    ·rw [List.length_append,hl]
     rfl
    ·by_cases hj:j<nm.length
     ·rw [List.getElem?_append_left hj] at hx
      exact hall j x hx
     ·have ej:j=i:=by
       have:=(List.getElem?_eq_some_iff.mp hx).1
       rw [List.length_append,List.length_singleton] at this
       omega
      subst ej
      rw [List.getElem?_append_right (by omega),hl,Nat.sub_self] at hx
      cases hx
      rw [Lm,Lm,sl1,sl2,Ahn,Int.zero_add]
      rfl
   rintro σ H1 ⟨nm,o1,o2,rfl,rfl,hl,hall⟩
   refine q D3 nm _ (s2.trans (Am n3)) Ad (by omega) ?_ fun x hx=>?_
   ·refine List.pairwise_iff_getElem.mpr fun i j hi hj lt z=>?_
    have h1:=hall i _ (List.getElem?_eq_getElem hi)
    have h2:=hall j _ (List.getElem?_eq_getElem hj)
    rw [z,h2] at h1
    have:=Ace (by omega) (by omega) h1
    omega
   ·obtain ⟨j,hj,rfl⟩:=List.mem_iff_getElem.mp hx
    refine Acc fun e he=>?_
    rw [hall j _ (List.getElem?_eq_getElem hj)] at he
    exact Acm e he
structure Am7 (nm:List Str):Prop where
 nd:nm.Nodup
 ok:∀x∈nm,PyData.strOk x=true
theorem Aaw {n one t:Int}(h:2≤n)(h0:0≤one)(h1:one<n)(t0:0≤t)(t1:t<n-1):0≤(one+1+t) % n∧(one+1+t) % n<n∧(one+1+t) % n≠one:=by
 have a:=Int.emod_nonneg (one+1+t) (show n≠0 by omega)
 have b:=Int.emod_lt_of_pos (one+1+t) (show 0<n by omega)
 refine ⟨a,b,fun c=>?_⟩
 by_cases d:one+1+t<n
 ·rw [Int.emod_eq_of_lt (by omega) d] at c
  omega
 ·have e:(one+1+t) % n=one+1+t-n:=by
   rw [←Int.sub_emod_right]
   exact Int.emod_eq_of_lt (by omega) (by omega)
  omega
def J3 (K:PySem.W.Frag)(ns:List Int):Sp:=fun vs H Q _=>match vs with
 |[.int c,.ref L,.int ds]=>∃nm:List Str,(H L=some (.lst (nm.map V.str))∧2≤nm.length∧nm.length≤8∧nm.Nodup∧1≤ds)∧∀v g H',Ah H H'→Bw H' v g→g.a∈nm→g.b∈nm→g.a≠g.b→0≤g.h→g.h≤2→Q v H'
 |_=>False
theorem Ke:Al ["_law_cell_here","_law_names_here","_law_days","_law_one","_law_other"] ["_law_cell_here","_law_names_here","_law_days"] (Af Lo):=⟨rfl,rfl,rfl,by decide +kernel,rfl,by decide +kernel,by decide +kernel⟩
theorem Xn (d:B8 K mg "_law_game" Lo ["_law_cell_here","_law_names_here","_law_days"])(er:Bg K mg c_Capped c_Early c_Ledger c_NoTable c_Rested c_Rule)(n_len:mg "len"=none)  :Bm P w K mg base "_law_game" ["_law_cell_here","_law_names_here","_law_days"] 1 (J3 K ns):=by
 refine d.cal (k:=0) Ke (fun vs H Q E h=>?_) (fun f cdv A outer s H vs Q E hr h=>?_)
 ·match vs,h with
  |[.int c,.ref L,.int ds],_=>rfl
 ·match vs,h with
  | [.int c,.ref L,.int ds],hq0=>
   obtain ⟨nm,⟨hL,l2,l8,nd,d1⟩,k⟩:=hq0
   refine ⟨_,(@Eu _ _ _ _ _ (@Au _ _ (3) _ _ _ _ Ke.nd rfl (by trivial) (@Aj _ _ _ _ _ _ _ _ Bn (dv 0) (@Aw _ _ _ _ _ _ _ _ _ Df (by rfl) n_len (by decide +kernel) (@Aa _ _ _ _ _ (dv 1) Ac (by rfl)) (by decide) (by decide) (by rfl) (by rfl))) (by rfl) (by trivial)) (@Eu _ _ _ _ _ (@Au _ _ (4) _ _ _ _ Ke.nd rfl (by trivial) (@Aj _ _ _ _ _ _ _ _ Bn (@Aj _ _ _ _ _ _ _ _ Cg (@Aj _ _ _ _ _ _ _ _ Cg (dv 3) Ab) (@Aj _ _ _ _ _ _ _ _ Bn (@Aj _ _ _ _ _ _ _ _ Ew (dv 0) Ab) (@Aj _ _ _ _ _ _ _ _ Sj (@Aw _ _ _ _ _ _ _ _ _ Df (by rfl) n_len (by decide +kernel) (@Aa _ _ _ _ _ (dv 1) Ac (by rfl)) (by decide) (by decide) (by rfl) (by rfl)) Ab))) (@Aw _ _ _ _ _ _ _ _ _ Df (by rfl) n_len (by decide +kernel) (@Aa _ _ _ _ _ (dv 1) Ac (by rfl)) (by decide) (by decide) (by rfl) (by rfl))) (by rfl) (by trivial)) (@Ag _ _ _ (@Aq _ _ _ _ (@Ca _ _ _ _ _ (@Aa _ _ _ _ _ (@Aj _ _ _ _ _ _ _ _ Bn (@Aj _ _ _ _ _ _ _ _ Ew (dv 0) Ab) (dv 2)) (@Aa _ _ _ _ _ (@Ap _ _ _ _ _ _ _ Dd (dv 1) (dv 3) (fun _ _=>rfl)) (@Aa _ _ _ _ _ (@Ap _ _ _ _ _ _ _ Dd (dv 1) (dv 4) (fun _ _=>rfl)) (@Aa _ _ _ _ _ (@Aj _ _ _ _ _ _ _ _ Bn (@Aj _ _ _ _ _ _ _ _ Ew (dv 0) Ab) Ab) (@Aa _ _ _ _ _ (@Aj _ _ _ _ _ _ _ _ Sj (@Aj _ _ _ _ _ _ _ _ Bn (@Aj _ _ _ _ _ _ _ _ Ew (dv 0) Ab) Ab) Ab) Ac (by rfl)) (by rfl)) (by rfl)) (by rfl)) (by rfl))))))),?_⟩
   have le:((nm.map V.str).length:Int)=nm.length:=by rw [List.length_map]
   refine ⟨fun σ H'=>∃i:Nat,σ=[some (.int c),some (.ref L),some (.int ds),some (.int (i:Int)),none]∧H'=H∧i<nm.length,?_,?_⟩
   ·have z0:=Int.emod_nonneg c (show (nm.length:Int)≠0 by omega)
    have z1:=Int.emod_lt_of_pos c (show 0<(nm.length:Int) by omega)
    refine ⟨_,.inl (Ay.of hL),?_⟩
    rw [le]
    refine ⟨by omega,(c % (nm.length:Int)).toNat,?_,rfl,by omega⟩
    rw [Int.toNat_of_nonneg z0]
    rfl
   rintro σ H' ⟨i,rfl,rfl,il⟩
   refine ⟨fun σ H1=>∃j:Nat,σ=[some (.int c),some (.ref L),some (.int ds),some (.int (i:Int)),some (.int (j:Int))]∧H1=H'∧j<nm.length∧j≠i,?_,?_⟩
   ·have z0:=Int.emod_nonneg (c / 8) (show (nm.length:Int)-1≠0 by omega)
    have z1:=Int.emod_lt_of_pos (c / 8) (show 0<(nm.length:Int)-1 by omega)
    obtain ⟨y0,y1,y2⟩:=Aaw (n:=nm.length) (one:=i) (by omega) (by omega) (by omega) z0 z1
    refine ⟨⟨by decide,A0 rfl⟩,_,.inl (Ay.of hL),?_⟩
    rw [le]
    refine ⟨by show 0<(nm.length:Int)-1;omega,_,.inl (Ay.of hL),?_⟩
    rw [le]
    refine ⟨by omega,(((i:Int)+1+c / 8 % ((nm.length:Int)-1)) % (nm.length:Int)).toNat,?_,rfl,by omega,by omega⟩
    rw [Int.toNat_of_nonneg y0]
    rfl
   rintro σ H1 ⟨j,rfl,rfl,jl,ne⟩
   have w0:=Int.emod_nonneg (c / 7) (show (3:Int)≠0 by decide)
   have w1:=Int.emod_lt_of_pos (c / 7) (show (0:Int)<3 by decide)
   have at':∀{m:Nat} (h:m<nm.length),Nv (nm.map V.str) (m:Int)=some (.str nm[m]):=fun h=>by
    refine C5 ?_
    rw [List.getElem?_map,List.getElem?_eq_getElem h]
    rfl
   refine ⟨⟨by decide,A0 rfl⟩,by show 0<ds;omega,_,_,Ay.of hL,at' il,_,_,Ay.of hL,at' jl,⟨by decide,A0 rfl⟩,(by show (0:Int)<3;decide),⟨by decide,A0 rfl⟩,(by show (0:Int)<3;decide),fun T H2 s2 e2=>?_⟩
   refine k (.ref T) ⟨c / 56 % ds,nm[i],nm[j],c / 7 % 3,c / 5 % 3-1⟩ H2 s2 ⟨T,rfl,e2⟩ (List.getElem_mem il) (List.getElem_mem jl) (fun z=>ne ?_) w0 (by show c / 7 % 3≤2;omega)
   exact ((List.getElem_inj nd).mp z).symm
def d0:En:=(0,⟨0,⟨#[]⟩,⟨#[]⟩,0,0⟩)
def pe (es:List En)(q:List Nat):List En:=q.map fun i=>es.getD i d0
def kE (es:List En)(i:Nat):Int:=dk (es.map (·.2)) i
theorem Ts {es:List En}{i:Nat}{e:En}(h:es[i]? =some e):kE es i=e.2.d∧es.getD i d0=e:=by
 refine ⟨?_,?_⟩
 ·unfold kE dk
  rw [List.getElem?_map,h]
  rfl
 ·rw [List.getD_eq_getElem?_getD,h]
  rfl
def lx (a b:En):Prop:=a.2.d<b.2.d∨a.2.d=b.2.d∧a.1<b.1
theorem Ag3 {es:List En}{q:List Nat}(h:Fx (kE es) es.length q){e:En}:e∈pe es q↔e∈es:=by
 unfold pe
 rw [List.mem_map]
 constructor
 ·rintro ⟨i,hi,rfl⟩
  have:=h.2.1 i hi
  rw [(Ts (List.getElem?_eq_getElem this)).2]
  exact List.getElem_mem this
 ·intro he
  obtain ⟨i,hi,rfl⟩:=List.getElem_of_mem he
  exact ⟨i,((Fu h).mem_iff).mpr (List.mem_range.mpr hi),(Ts (List.getElem?_eq_getElem hi)).2⟩
theorem Aex {es:List En}{q:List Nat}(hi:Ji es)(h:Fx (kE es) es.length q):(pe es q).Pairwise lx:=by
 unfold pe
 refine List.pairwise_map.mpr (h.2.2.imp_of_mem fun {a b} ha hb z=>?_)
 have la:=h.2.1 a ha
 have lb:=h.2.1 b hb
 obtain ⟨k1,e1⟩:=Ts (List.getElem?_eq_getElem la)
 obtain ⟨k2,e2⟩:=Ts (List.getElem?_eq_getElem lb)
 rw [e1,e2]
 rcases z with z|⟨z,l⟩
 ·rw [k1,k2] at z
  exact .inl z
 ·rw [k1,k2] at z
  exact .inr ⟨z,List.pairwise_iff_getElem.mp hi a b la lb l⟩
theorem Aig {l m:List En}(hl:l.Pairwise lx)(hm:m.Pairwise lx)(h:∀e,e∈l↔e∈m):l=m:=by
 have nd:∀{l:List En},l.Pairwise lx→l.Nodup:=fun h=>h.imp fun {a b} z e=>by
  subst e
  rcases z with z|⟨_,z⟩<;>exact Int.lt_irrefl _ z
 refine List.Perm.eq_of_pairwise (le:=lx) (fun a b _ _ z z'=>?_) hl hm ((List.perm_ext_iff_of_nodup (nd hl) (nd hm)).mpr h)
 rcases z with z|⟨z,y⟩<;>rcases z' with z'|⟨z',y'⟩<;>omega
theorem Aff {fs:List En}{p:List Nat}(h:Fx (dk (fs.map (·.2))) (fs.map (·.2)).length p):pg (fs.map (·.2)) p=(pe fs p).map (·.2):=by
 have h2:=h.2.1
 clear h
 unfold pg pe
 induction p with
 |nil=>rfl
 |cons i p ih=>
  have hi:=h2 i List.mem_cons_self
  rw [List.length_map] at hi
  rw [List.filterMap_cons,List.getElem?_map,List.getElem?_eq_getElem hi,List.map_cons,List.map_cons,(Ts (List.getElem?_eq_getElem hi)).2]
  show _::_=_
  rw [ih fun j hj=>h2 j (List.mem_cons_of_mem _ hj)]
def nqd (x:Str×Q2):PyData:=.tuple [.str x.1,.tuple [.int x.2.1,.int x.2.2]]
theorem Nf {K:PySem.W.Frag}{H:Hp}:∀{vs:List V} {ss:List (Str×Q2)},At (Rx H) vs ss→O6 K H vs (ss.map nqd)
 |_,_,.nil=>.nil
 |_,_,.cons ⟨t,p,e,h0,h1⟩ r=>by
  subst e
  exact .cons (.tup (E4.of h0) (.cons (.str _) (.cons (.tup (E4.of h1) (.cons (.int _) (.cons (.int _) .nil))) .nil))) (Nf r)
theorem Ae6:∀{ss:List (Str×Q2)},(∀s∈ss,PyData.strOk s.1=true)→PyData.canLayAll0 (ss.map nqd)=true
 |[],_=>rfl
 |s::ss,h=>by
  have h1:=h s List.mem_cons_self
  show (((PyData.strOk s.1&&((true&&(true&&true))&&true)))&&PyData.canLayAll0 (ss.map nqd))=true
  rw [h1,Ae6 fun s hs=>h s (List.mem_cons_of_mem _ hs)]
  rfl
theorem Afj:∀(ss:List (Str×Q2)),PyData.depthAll (ss.map nqd)≤2
 |[]=>Nat.zero_le _
 |s::ss=>by
  have e:(nqd s).depth=2:=rfl
  show max (nqd s).depth (PyData.depthAll (ss.map nqd))≤2
  rw [e]
  have:=Afj ss
  omega
theorem Akw {ss:List (Str×Q2)}(h:∀s∈ss,PyData.strOk s.1=true):SeqAt.shaped (.list (ss.map nqd))=true:=by
 unfold SeqAt.shaped
 have e:(PyData.list (ss.map nqd)).depth=PyData.depthAll (ss.map nqd)+1:=rfl
 have:=Afj ss
 rw [show (PyData.list (ss.map nqd)).canLay0=true from Ae6 h,e,Bool.true_and]
 exact decide_eq_true (by omega)
theorem Ef {K:PySem.W.Frag}{L A R T:Addr}{H H':Hp}{es:List En}{last:Int}{pos:Pos}{q:Str}(h:Pm L A T H H')(lg:Cf K H L A R es last)(tk:A3 H T pos q):(∀b xs,H b=some (.lst xs)→H' b=some (.lst xs))∧Kt H H':=by
 obtain ⟨C,dx,fs,eL,_,_,kvs,eA,_⟩:=lg
 obtain ⟨ps,eT,_⟩:=tk
 refine ⟨fun b xs e=>h b _ ?_ ?_ ?_ e,fun b xs e=>h b _ ?_ ?_ ?_ e⟩
 ·exact fun z=>by rw [z,eL] at e;cases e
 ·exact fun z=>by rw [z,eA] at e;cases e
 ·exact fun z=>by rw [z,eT] at e;cases e
 ·exact fun z=>by rw [z,eL] at e;cases e
 ·exact fun z=>by rw [z,eA] at e;cases e
 ·exact fun z=>by rw [z,eT] at e;cases e
theorem Tl {L A T:Addr}{N H H':Hp}(h:Pm L A T H H')(s:Ah N H)(n1:N L=none)(n2:N A=none)(n3:N T=none):Ah N H':=fun b o e=>h b o (fun z=>by rw [z,n1] at e;cases e) (fun z=>by rw [z,n2] at e;cases e) (fun z=>by rw [z,n3] at e;cases e) (s b o e)
theorem Va {u n:Nat}(h:u<n):seqIndex? (u:Int) n=some u:=by
 unfold seqIndex?
 simp only []
 rw [if_neg (show ¬(u:Int)<0 by omega)]
 rw [if_pos (by rw [Bool.and_eq_true];exact ⟨decide_eq_true (by omega),decide_eq_true (by omega)⟩)]
 rfl
theorem Aba {X b:Addr}{H:Hp}{o:HO}(n:b≠X)(e:H b=some o):Hj X H b=some o:=by
 unfold Hj
 rw [if_neg n]
 exact e
theorem L8 {K:PySem.W.Frag}{N H':Hp}{R:Addr}{so st fi one two:Int}{rows:List Rw}(h:Ir K N R so st fi one two rows)(nT:N (Bx K)=none)(s:Ah N H'):K8 K (Hj (Bx K) H') R so st fi one two rows:=h.at.up fun b o e=>Aba (fun z=>by rw [z,nT] at e;cases e) (s b o e)
theorem R3 {T:Addr}{N H H':Hp}(s:Ah N H)(sm:Xt T H H')(n:N T=none):Ah N H':=fun b o e=>sm b o (fun z=>by rw [z,n] at e;cases e) (s b o e)
theorem Hc {T:Addr}{H H':Hp}{pos:Pos}{q:Str}(sm:Xt T H H')(tk:A3 H T pos q):(∀b xs,H b=some (.lst xs)→H' b=some (.lst xs))∧Kt H H':=by
 obtain ⟨ps,tt,_⟩:=tk
 exact ⟨fun b xs e=>sm b _ (fun z=>by rw [z,tt] at e;cases e) e,fun b xs e=>sm b _ (fun z=>by rw [z,tt] at e;cases e) e⟩
theorem Xc {nm:List Str}{es:List En}{last:Int}{g:Gm}(ok:Ja nm es last)(ga:g.a∈nm)(gb:g.b∈nm):Ja nm (es++[(last+1,g)]) (last+1):=by
 refine ⟨List.pairwise_append.mpr ⟨ok.inc,List.pairwise_singleton ..,fun a ha b hb=>?_⟩,fun e he=>?_,fun e he=>?_⟩
 ·rw [List.mem_singleton.mp hb]
  have:=ok.le a ha
  show a.1<last+1
  omega
 ·rcases List.mem_append.mp he with h|h
  ·have:=ok.le e h
   omega
  ·rw [List.mem_singleton.mp h]
   exact Int.le_refl _
 ·rcases List.mem_append.mp he with h|h
  ·exact ok.mem e h
  ·rw [List.mem_singleton.mp h]
   exact ⟨ga,gb⟩
def Iu (l:List Nat):List Int:=l.map fun i:Nat=>(i:Int)
theorem Lg {K:PySem.W.Frag}{H:Hp}:∀(l:List Int),O6 K H (l.map V.int) (l.map PyData.int)
 |[]=>.nil
 |x::l=>.cons (.int x) (Lg l)
theorem Abs:∀(l:List Int),PyData.canLayAll0 (l.map PyData.int)=true
 |[]=>rfl
 |x::l=>by
  show (true&&PyData.canLayAll0 (l.map PyData.int))=true
  rw [Abs l]
  rfl
theorem Y9:∀(l:List Int),PyData.depthAll (l.map PyData.int)=0
 |[]=>rfl
 |x::l=>by
  show max 0 (PyData.depthAll (l.map PyData.int))=0
  rw [Y9 l]
  rfl
theorem Vs (l:List Int):SeqAt.shaped (.list (l.map PyData.int))=true:=by
 unfold SeqAt.shaped
 have e:(PyData.list (l.map PyData.int)).depth=PyData.depthAll (l.map PyData.int)+1:=rfl
 have:=Y9 l
 rw [show (PyData.list (l.map PyData.int)).canLay0=true from Abs l,e,Bool.true_and]
 exact decide_eq_true (by omega)
theorem Rr {l:List Int}(h:(!PyData.eqv (.list (l.map PyData.int)) (.list []))=true):l≠[]:=fun z=>by
 subst z
 exact absurd h (by decide)
theorem Wy {l:List Int}(h:(!PyData.eqv (.list (l.map PyData.int)) (.list []))=false):l=[]:=by
 cases l with
 |nil=>rfl
 |cons x l=>exact nb (show (!PyData.eqv (.list ((x::l).map PyData.int)) (.list []))=false from h)
theorem Xk {lo:Int}{n:Nat}{g:TG}{te:TE}{k:Nat}{js:List Nat}{σ:L2.St}{H1:Hp}{Q:VK}(f:Nat→V)(hz:n≤1000)
  (hs:∀i H2,i<n→Ah H1 H2→∀P:VK,P (f i) H2→g (.int (lo+i)) (List.replicate k none++capσ js σ) H2 fun σ2 H3=>σ2.drop k=capσ js σ∧te σ2 H3 P)
  (hq:∀D,H1 D=none→Q (.ref D) (upd H1 D (.lst ((List.range n).map f)))) :
  Ez (Itr lo n) g te k js σ H1 Q:=by
 unfold Ez
 intro D hD
 refine ⟨fun i m H=>m=n-i∧i≤n∧H=upd H1 D (.lst ((List.range i).map f)),⟨n,by simp,Nat.zero_le _,rfl⟩,?_⟩
 rintro i m H ⟨rfl,hi,rfl⟩
 by_cases hlt:i<n
 ·refine .inr ⟨hlt,fun x H' y=>?_⟩
  obtain ⟨e1,e2⟩:=y
  subst e1 e2
  refine hs i _ hlt (Am hD) _ ⟨_,Ad,?_,n-(i+1),by omega,rfl,hlt,?_⟩
  ·rw [List.length_map,List.length_range]
   exact Nat.lt_of_lt_of_le hlt (Nat.le_trans hz (by decide))
  ·rw [Qa,List.range_succ,List.map_append]
   rfl
 ·have e:i=n:=by omega
  subst e
  exact .inl ⟨Nat.le_refl _,hq D hD⟩
theorem Aej (n:Nat):(List.range n).map (fun j:Nat=>V.int (0+(j:Int)))=(Iu (List.range n)).map V.int:=by
 unfold Iu
 rw [List.map_map]
 exact List.map_congr_left fun i _=>by
  show V.int (0+(i:Int))=V.int (i:Int)
  rw [Int.zero_add]
theorem P6 {l:List Nat}{u:Nat}{i:Nat}(h:l[u]? =some i):((Iu l).map V.int)[u]? =some (V.int (i:Int)):=by
 unfold Iu
 rw [List.getElem?_map,List.getElem?_map,h]
 rfl
theorem Ju (l:List Nat):((Iu l).map V.int).length=l.length:=by
 unfold Iu
 rw [List.length_map,List.length_map]
theorem Ou:∀(l:List Nat) (i:Nat),(Iu l).erase (i:Int)=Iu (l.erase i)
 |[],_=>rfl
 | x::l,i=>by
  show ((x:Int)::Iu l).erase (i:Int)=Iu ((x::l).erase i)
  by_cases c:x=i
  ·subst c
   rw [List.erase_cons_head,List.erase_cons_head]
  ·rw [List.erase_cons_tail (by simpa using fun z:(x:Int)=i=>c (Int.ofNat.inj z)),List.erase_cons_tail (by simpa using c),Ou l i]
   rfl
theorem Adz {l:List Nat}{i:Nat}(h:i∈l):(i:Int)∈Iu l:=List.mem_map.mpr ⟨i,h,rfl⟩
theorem Ab1 (l:List Nat)(i:Nat):(Iu l).map V.int++[V.int (i:Int)]=(Iu (l++[i])).map V.int:=by
 unfold Iu
 rw [List.map_append,List.map_append]
 rfl
theorem Aa2:∀(l:List Nat),At (fun v m=>v=V.int ((m:Nat):Int)) ((Iu l).map V.int) l
 |[]=>.nil
 |x::l=>.cons rfl (Aa2 l)
theorem Ti:∀{l:List Nat} {ys:List V},At (fun m y=>y=V.int ((m:Nat):Int)) l ys→ys=(Iu l).map V.int
 |_,_,.nil=>rfl
 |_,_,.cons h t=>by rw [h,Ti t];rfl
theorem Xl {d:Nat→Int}{L ys R:List Nat}{f i:Nat}(pm:(L++ys).Perm R)(inc:L.Pairwise (· < ·))(pw:ys.Pairwise fun a b=>d a=d b→a<b)(cr:∀a∈ys,∀b∈L,d a=d b→a<b)(hi:i∈L)(hf:(L.filter fun m=>decide (d m=d i)).head? =some f) :
  f∈L∧(L.erase f++(ys++[f])).Perm R∧(L.erase f).Pairwise (· < ·)∧(ys++[f]).Pairwise (fun a b=>d a=d b→a<b)∧∀a∈ys++[f],∀b∈L.erase f,d a=d b→a<b:=by
 have mf:=List.mem_of_head? hf
 obtain ⟨fL,df⟩:=List.mem_filter.mp mf
 have df:d f=d i:=of_decide_eq_true df
 have least:∀b∈L,d b=d f→b≠f→f<b:=fun b hb db ne=>by
  obtain ⟨t,ht⟩:∃t,L.filter (fun m=>decide (d m=d i))=f::t:=by
   cases e:L.filter (fun m=>decide (d m=d i)) with
   |nil=>rw [e] at hf;cases hf
   |cons x t=>
    rw [e] at hf
    have:x=f:=Option.some.inj hf
    exact ⟨t,by rw [this]⟩
  have hb':b∈L.filter (fun m=>decide (d m=d i)):=List.mem_filter.mpr ⟨hb,decide_eq_true (db.trans df)⟩
  have inc':(L.filter (fun m=>decide (d m=d i))).Pairwise (· < ·):=List.Pairwise.filter _ inc
  rw [ht] at hb' inc'
  rcases List.mem_cons.mp hb' with z|z
  ·exact absurd z ne
  ·exact (List.pairwise_cons.mp inc').1 b z
 have nd:L.Nodup:=inc.imp fun {a b} h=>Nat.ne_of_lt h
 refine ⟨fL,?_,inc.sublist List.erase_sublist,List.pairwise_append.mpr ⟨pw,List.pairwise_singleton ..,fun a ha b hb=>?_⟩,fun a ha b hb dab=>?_⟩
 ·refine List.Perm.trans ?_ pm
  have h1:(L.erase f++(ys++[f])).Perm (f::(L.erase f++ys)):=by
   rw [←List.append_assoc]
   exact List.perm_append_singleton ..
  refine h1.trans ?_
  show ((f::L.erase f)++ys).Perm (L++ys)
  exact (List.perm_cons_erase fL).symm.append_right ys
 ·rw [List.mem_singleton.mp hb]
  exact cr a ha f fL
 ·have bL:=List.mem_of_mem_erase hb
  rcases List.mem_append.mp ha with h|h
  ·exact cr a h b bL dab
  ·rw [List.mem_singleton.mp h] at dab ⊢
   refine least b bL dab.symm fun z=>?_
   subst z
   exact nd.not_mem_erase hb
def Hi (K:PySem.W.Frag)(ns:List Int):Sp:=fun vs H Q _=>match vs with
 |[.ref a,.ref G]=>∃(gs:List Gm) (vs:List V),(Ay K H a (ns.map V.int)∧Rm ns∧H G=some (.lst vs)∧At (Bw H) vs gs∧gs.length≤20) ∧
  ∀D (ys:List Nat) H',Ah H H'→H D=none→H' D=some (.lst ((Iu ys).map V.int))→ys.Perm (List.range gs.length)→ys.Pairwise (fun i j=>dk gs i=dk gs j→i<j)→Q (.ref D) H'
 |_=>False
theorem Cd:Al ["_law_script","_law_games","_law_left","_law_found","_law_cell_here","_law_day","_law_first"] ["_law_script","_law_games"] (Af Gc):=⟨rfl,rfl,rfl,by decide +kernel,rfl,by decide +kernel,by decide +kernel⟩
theorem Nx (d:B8 K mg "_law_shuffled" Gc ["_law_script","_law_games"])(er:Bg K mg c_Capped c_Early c_Ledger c_NoTable c_Rested c_Rule)(n_len:mg "len"=none)(n_range:mg "range"=none)  (c_l_cell:Bm P w K mg base "_law_cell" ["_law_script","_law_k"] 1 (Fk K ns)):Bm P w K mg base "_law_shuffled" ["_law_script","_law_games"] 2 (Hi K ns):=by
 refine d.cal (k:=1) Cd (fun vs H Q E h=>?_) (fun f cdv A outer s H vs Q E hr h=>?_)
 ·match vs,h with
  |[.ref a,.ref G],_=>rfl
 ·match vs,h with
  | [.ref a,.ref G],hq0=>
   obtain ⟨gs,vs,⟨hS,hb,hG,al,l20⟩,k⟩:=hq0
   refine ⟨_,(@Ae _ _ _ _ _ (@Mw _ _ _ _ _ _ _ _ (2) _ _ _ _ _ ["_law_k"] [] [] rfl (@Di _ _ _ _ _ _ (by rfl) n_range (@Aa _ _ _ _ _ (@Aw _ _ _ _ _ _ _ _ _ Df (by rfl) n_len (by decide +kernel) (@Aa _ _ _ _ _ (dv 1) Ac (by rfl)) (by decide) (by decide) (by rfl) (by rfl)) Ac (by rfl)) (by rfl)) (fun C s H fp=>(@A6 _ _ (0) _ (show List.Nodup [("_law_k":Str)] by decide +kernel) rfl (by trivial) (by trivial))) (fun C s H fp=>(dv 0)) rfl rfl (by decide +kernel) (by decide +kernel) (by rfl) True.intro True.intro Cd.nd rfl rfl (by intro _;rfl) (by rfl)) (@Ae _ _ _ _ _ (@Au _ _ (3) _ _ _ _ Cd.nd rfl (by trivial) (@Do _ _ _ _ Ac) (by rfl) (by trivial)) (@Ae _ _ _ _ _ (@Qx _ _ _ _ _ _ PassesOwn.never (@Bv _ _ _ _ _ _ _ _ (@O0 _ hr.units) (dv 2) (@Do _ _ _ _ Ac) (@A5 _ _ (by decide) (by decide))) (@Ae _ _ _ _ _ (@Au _ _ (4) _ _ _ _ Cd.nd rfl (by trivial) (@An _ _ _ _ _ _ _ _ _ _ _ c_l_cell hr (by decide) (by rfl) (@Aa _ _ _ _ _ (dv 0) (@Aa _ _ _ _ _ (@Aj _ _ _ _ _ _ _ _ Cg Ab (@Aj _ _ _ _ _ _ _ _ Bn (@Aw _ _ _ _ _ _ _ _ _ Df (by rfl) n_len (by decide +kernel) (@Aa _ _ _ _ _ (dv 2) Ac (by rfl)) (by decide) (by decide) (by rfl) (by rfl)) Ab)) Ac (by rfl)) (by rfl)) (by decide) (by rfl) (by rfl)) (by rfl) (by trivial)) (@Ae _ _ _ _ _ (@Au _ _ (5) _ _ _ _ Cd.nd rfl (by trivial) (@Ap _ _ _ _ _ _ _ Av (@Ap _ _ _ _ _ _ _ Dd (dv 1) (@Ap _ _ _ _ _ _ _ Dd (dv 2) (@Aj _ _ _ _ _ _ _ _ Bn (dv 4) (@Aw _ _ _ _ _ _ _ _ _ Df (by rfl) n_len (by decide +kernel) (@Aa _ _ _ _ _ (dv 2) Ac (by rfl)) (by decide) (by decide) (by rfl) (by rfl))) (fun _ _=>rfl)) (fun _ _=>rfl)) Ab (fun _ _=>rfl)) (by rfl) (by trivial)) (@Ae _ _ _ _ _ (@Au _ _ (6) _ _ _ _ Cd.nd rfl (by trivial) (@Ap _ _ _ _ _ _ _ Dd (@S9 _ _ _ _ _ _ _ _ _ _ _ _ ["_law_k"] ["_law_day","_law_games"] [5,1] rfl (@Dq _ _ _ _ (dv 2)) (fun C s H fp=>(@A6 _ _ (0) _ (show List.Nodup [("_law_k":Str),("_law_day":Str),("_law_games":Str)] by decide +kernel) rfl (by trivial) (by trivial))) (fun C s H fp=>(@Bv _ _ _ _ _ _ _ _ N5 (@Ap _ _ _ _ _ _ _ Av (@Ap _ _ _ _ _ _ _ (show IxR _ (Akl K) from Dd) (dv 2) (dv 0) (fun _ _=>rfl)) Ab (fun _ _=>rfl)) (dv 1) (@A5 _ _ (by decide) (by decide)))) (fun C s H fp=>(dv 0)) rfl rfl (by decide +kernel) (by decide +kernel) (by rfl) ⟨rfl,⟨rfl,True.intro⟩⟩ ⟨⟨rfl,rfl,rfl,rfl⟩,⟨⟨rfl,rfl,rfl,rfl⟩,True.intro⟩⟩ (by intro _;rfl)) Ab (fun _ _=>rfl)) (by rfl) (by trivial)) (@Ae _ _ _ _ _ (@Bs _ _ _ _ (@G4 _ _ _ _ _ _ _ _ _ _ _ _ PySem.F.plainAttrs_list PySem.F.slot_list_remove PySem.F.type_list_remove Uh (dv 2) (@Aa _ _ _ _ _ (dv 6) Ac (by rfl)) (by rfl) (by rfl) (by rfl) (by rfl) (by rfl)) (by rfl)) (@Ag _ _ _ (@Bs _ _ _ _ (@G4 _ _ _ _ _ _ _ _ _ _ _ _ PySem.F.plainAttrs_list PySem.F.slot_list_append PySem.F.type_list_append Dm (dv 3) (@Aa _ _ _ _ _ (dv 6) Ac (by rfl)) (by rfl) (by rfl) (by rfl) (by rfl) (by rfl)) (by rfl)))))))) (@Ag _ _ _ (@Aq _ _ _ _ (dv 3)))))),?_⟩
   have lv:=al.len
   refine ⟨_,.inl (Ay.of hG),_,rfl,by omega,by omega,Xk (n:=vs.length) (fun j=>V.int (0+(j:Int))) (by omega) (fun i H2 hi s2 P hP=>⟨rfl,hP⟩) fun D hD=>?_⟩
   rw [Aej]
   have s1:Ah H (upd H D (.lst ((Iu (List.range vs.length)).map V.int))):=Am hD
   have e1:upd H D (.lst ((Iu (List.range vs.length)).map V.int)) D=some (.lst ((Iu (List.range vs.length)).map V.int)):=Ad
   generalize upd H D (.lst ((Iu (List.range vs.length)).map V.int))=H1 at s1 e1
   refine ⟨by decide,fun F hF=>?_⟩
   have nF:H F=none:=Bl s1 hF
   have nDF:D≠F:=fun z=>by rw [z,hF] at e1;cases e1
   have s2:Ah H1 (upd H1 F (.lst [])):=Am hF
   have e2:upd H1 F (.lst []) F=some (.lst []):=Ad
   generalize upd H1 F (.lst [])=H2 at s2 e2
   refine ⟨fun m σ H'=>∃(L ys:List Nat) (o4 o5 o6:Option V),σ=[some (.ref a),some (.ref G),some (.ref D),some (.ref F),o4,o5,o6]∧Ah H H'∧H' D=some (.lst ((Iu L).map V.int))∧H' F=some (.lst ((Iu ys).map V.int))∧L.length=m∧(L++ys).Perm (List.range gs.length)∧L.Pairwise (· < ·)∧ys.Pairwise (fun i j=>dk gs i=dk gs j→i<j)∧∀a∈ys,∀b∈L,dk gs a=dk gs b→a<b,⟨_,List.range vs.length,[],none,none,none,rfl,s1.trans s2,s2 _ _ e1,e2,rfl,by rw [List.append_nil,lv],List.pairwise_lt_range,.nil,fun a h=>by (cases h)⟩,?_⟩
   rintro m σ H3 ⟨L,ys,o4,o5,o6,rfl,s3,eL,eF,lm,pm,inc,pw,cr⟩
   refine ⟨by decide,fun Z hZ=>?_⟩
   have s4:Ah H3 (upd H3 Z (.lst [])):=Am hZ
   have e4:upd H3 Z (.lst []) Z=some (.lst []):=Ad
   generalize upd H3 Z (.lst [])=H4 at s4 e4
   have eL4:=s4 _ _ eL
   have eF4:=s4 _ _ eF
   have s04:=s3.trans s4
   refine ⟨_,_,.lst (Ay.of eL4) (Lg _),.lst (Ay.of e4) .nil,Vs _,rfl,⟨fun h=>?thn,fun h=>?els⟩⟩
   case els=>
    have z:=Wy h
    have z:L=[]:=List.map_eq_nil_iff.mp z
    subst z
    exact k F ys H4 s04 nF eF4 pm pw
   have ne:L≠[]:=fun z=>Rr h (by rw [z];rfl)
   have L0:0<L.length:=List.length_pos_iff.mpr ne
   have pl:=pm.length_eq
   rw [List.length_append,List.length_range] at pl
   have lL:((Iu L).map V.int).length=L.length:=Ju L
   have y0:=Int.emod_nonneg (L.length:Int) (show (13:Int)≠0 by decide)
   have y1:=Int.emod_lt_of_pos (L.length:Int) (show (0:Int)<13 by decide)
   refine ⟨_,.inl (Ay.of eL4),(by show (0:Int)<13;decide),s04.seq hS,⟨by rw [lL];omega,by rw [lL];omega,hb⟩,fun c=>?_⟩
   have u0:=Int.emod_nonneg c (show (L.length:Int)≠0 by omega)
   have u1:=Int.emod_lt_of_pos c (show 0<(L.length:Int) by omega)
   obtain ⟨u,hu⟩:∃u:Nat,c % (L.length:Int)=u:=⟨_,(Int.toNat_of_nonneg u0).symm⟩
   have ul:u<L.length:=by omega
   have iL:L[u]∈L:=List.getElem_mem ul
   have inR:∀i∈L,i<gs.length:=fun i hi=>List.mem_range.mp (pm.mem_iff.mp (List.mem_append_left _ hi))
   have gat:∀{i:Nat} {H':Hp},i∈L→Ah H H'→∃(p:Addr) (g:Gm),vs[i]? =some (.ref p)∧H' p=some (.tup [.int g.d,.str g.a,.str g.b,.int g.h,.int g.s])∧dk gs i=g.d:=fun {i H'} hi s'=>by
    have hi':i<vs.length:=by rw [lv];exact inR i hi
    obtain ⟨g,hg,⟨p,e,hp⟩,ed⟩:=Afc al (List.getElem?_eq_getElem hi')
    exact ⟨p,g,by rw [List.getElem?_eq_getElem hi',e],s' _ _ hp,ed⟩
   obtain ⟨p,g,ep,hp,ed⟩:=gat iL s04
   refine ⟨_,.inl (Ay.of eL4),by rw [lL];show 0<(L.length:Int);omega,_,.int ((L[u]:Nat):Int),Ay.of eL4,(by rw [lL];show Nv _ (c % (L.length:Int))=_;rw [hu];exact C5 (P6 (List.getElem?_eq_getElem ul))),_,.ref p,Ay.of (s04 _ _ hG),C5 ep,_,hp,?_⟩
   refine ⟨D,rfl,⟨_,Ay.of eL4⟩,Pf (fun _ v (m:Nat)=>v=V.int (m:Int)) (fun _ _ _ _ _ h=>h) (fun _ (m:Nat) y=>y=V.int (m:Int)) (fun _ _ _ _ _ h=>h) (fun m=>decide (dk gs m=dk gs L[u])) (by rw [lL];omega) (Ay.of eL4) (Aa2 L) ?_ ?_⟩
   ·intro v m H5 hv hm s5 P P' hP hP'
    subst hv
    obtain ⟨p5,g5,ep5,hp5,ed5⟩:=gat hm (s04.trans s5)
    refine ⟨rfl,_,.ref p5,Ay.of ((s04.trans s5) _ _ hG),C5 ep5,_,hp5,⟨fun h=>?_,fun h=>?_⟩⟩
    ·exact hP (by rw [ed5,ed];simpa using h) _ _ (Ah.refl _) rfl
    ·exact hP' (by rw [ed5,ed];simpa using h) _ (Ah.refl _)
   intro D5 H5 zs s5 _ e5 a5
   have ez:=Ti a5
   subst ez
   have mi:L[u]∈L.filter fun m=>decide (dk gs m=dk gs L[u]):=List.mem_filter.mpr ⟨iL,decide_eq_true rfl⟩
   obtain ⟨f,hf⟩:∃f,(L.filter fun m=>decide (dk gs m=dk gs L[u])).head? =some f:=by
    cases e:L.filter (fun m=>decide (dk gs m=dk gs L[u])) with
    |nil=>rw [e] at mi;cases mi
    |cons x t=>exact ⟨x,rfl⟩
   obtain ⟨fL,pm',inc',pw',cr'⟩:=Xl pm inc pw cr iL hf
   have eL5:=s5 _ _ eL4
   refine ⟨_,.int (f:Int),Ay.of e5,C5 (j:=0) (P6 (by rw [←List.head?_eq_getElem?];exact hf)),.inl ⟨rfl,_,Ay.of eL5⟩,D,Iu L,(f:Int),rfl,rfl,eL5,Adz fL,?_⟩
   have eF5:=s5 _ _ eF4
   have eF6:upd H5 D (.lst (((Iu L).erase (f:Int)).map V.int)) F=some (.lst ((Iu ys).map V.int)):=by
    rw [Ak (Ne.symm nDF)]
    exact eF5
   refine ⟨.inl ⟨rfl,_,Ay.of eF6⟩,F,_,_,rfl,rfl,eF6,Nat.lt_of_le_of_lt (show ((Iu ys).map V.int).length≤100 by rw [Ju];omega) (by decide),?_⟩
   refine ⟨L.length-1,by omega,L.erase f,ys++[f],_,_,_,rfl,Cb (Cb (s04.trans s5) hD) nF,?_,?_,?_,pm',inc',pw',cr'⟩
   ·rw [Ak nDF,Ad,Ou]
   ·rw [Ad,Ab1]
   ·rw [List.length_erase_of_mem fL]
def kpt (es:List En)(zs:List Int):List En:=es.filter fun e=>decide (e.1∉zs)
structure Zok (es:List En)(zs:List Int):Prop where
 inc:zs.Pairwise (· < ·)
 mem:∀z∈zs,∃g,(z,g)∈es
theorem Zok.le {nm:List Str}{es:List En}{zs:List Int}{last:Int}(h:Zok es zs)(ok:Ja nm es last){z:Int}(hz:z∈zs):z≤last:=by
 obtain ⟨g,hg⟩:=h.mem z hz
 exact ok.le _ hg
theorem Tz {nm:List Str}{es:List En}{zs:List Int}{last:Int}{g:Gm}(ok:Ja nm es last)(h:Zok es zs):kpt (es++[(last+1,g)]) (zs++[last+1])=kpt es zs∧Zok (es++[(last+1,g)]) (zs++[last+1]):=by
 refine ⟨?_,List.pairwise_append.mpr ⟨h.inc,List.pairwise_singleton ..,fun a ha b hb=>?_⟩,fun z hz=>?_⟩
 ·unfold kpt
  rw [List.filter_append,List.filter_cons_of_neg (by simp),List.filter_nil,List.append_nil]
  refine List.filter_congr fun e he=>decide_eq_decide.mpr ?_
  have:=ok.le e he
  rw [List.mem_append,List.mem_singleton]
  exact ⟨fun z c=>z (.inl c),fun z c=>c.elim z fun c=>by omega⟩
 ·rw [List.mem_singleton.mp hb]
  have:=h.le ok ha
  omega
 ·rcases List.mem_append.mp hz with hz|hz
  ·obtain ⟨g',hg⟩:=h.mem z hz
   exact ⟨g',List.mem_append_left _ hg⟩
  ·exact ⟨g,by rw [List.mem_singleton.mp hz];exact List.mem_append_right _ (List.mem_singleton.mpr rfl)⟩
theorem Zp {nm:List Str}{es:List En}{zs:List Int}{last:Int}{g:Gm}(ok:Ja nm es last)(h:Zok es zs):kpt (es++[(last+1,g)]) zs=kpt es zs++[(last+1,g)]∧Zok (es++[(last+1,g)]) zs:=by
 refine ⟨?_,h.inc,fun z hz=>?_⟩
 ·unfold kpt
  have nz:last+1∉zs:=fun c=>by
   have:=h.le ok c
   omega
  rw [List.filter_append,List.filter_cons_of_pos (p:=fun e:En=>decide (e.1∉zs)) (a:=(last+1,g)) (decide_eq_true nz)]
  rfl
 ·obtain ⟨g',hg⟩:=h.mem z hz
  exact ⟨g',List.mem_append_left _ hg⟩
theorem Oi:∀{l:List Int} {u:Nat} {z:Int},l[u]? =some z→∀x,x∈l↔x=z∨x∈l.eraseIdx u
 |[],_,_,h,_=>by simp at h
 |y::l,0,z,h,x=>by
  have:y=z:=Option.some.inj h
  subst this
  exact List.mem_cons
 |y::l,u+1,z,h,x=>by
  have ih:=Oi (l:=l) (u:=u) (z:=z) h x
  show x∈y::l↔x=z∨x∈y::l.eraseIdx u
  rw [List.mem_cons,List.mem_cons,ih]
  exact or_left_comm
theorem S4:∀{l:List Int} {u:Nat} {z:Int},l.Pairwise (· < ·)→l[u]? =some z→z∉l.eraseIdx u
 |[],_,_,_,h=>by simp at h
 |y::l,0,z,inc,h=>by
  have:y=z:=Option.some.inj h
  subst this
  exact fun c=>Int.lt_irrefl _ ((List.pairwise_cons.mp inc).1 y c)
 | y::l,u+1,z,inc,h=>by
  have h:l[u]? =some z:=h
  obtain ⟨i1,i2⟩:=List.pairwise_cons.mp inc
  show z∉y::l.eraseIdx u
  intro c
  rcases List.mem_cons.mp c with c|c
  ·have:=i1 z (List.mem_of_getElem? h)
   omega
  ·exact S4 i2 h c
theorem Abg {es:List En}{zs:List Int}{u:Nat}{z:Int}(h:Zok es zs)(hz:zs[u]? =some z):kpt (wo es z) (zs.eraseIdx u)=kpt es zs∧Zok (wo es z) (zs.eraseIdx u):=by
 have m:=Oi hz
 refine ⟨?_,h.inc.sublist (List.eraseIdx_sublist ..),fun x hx=>?_⟩
 ·unfold kpt wo
  rw [List.filter_filter]
  refine List.filter_congr fun e he=>?_
  have:=m e.1
  rw [←Bool.decide_and]
  refine decide_eq_decide.mpr ?_
  rw [this,not_or]
  exact and_comm
 ·obtain ⟨g,hg⟩:=h.mem x (List.mem_of_mem_eraseIdx hx)
  exact ⟨g,List.mem_filter.mpr ⟨hg,decide_eq_true fun c:x=z=>S4 h.inc hz (c▸hx)⟩⟩
def wE (gs:List Gm)(ws:List (Nat×Int)):List En:=ws.map fun w=>(w.2,gs.getD w.1 gz)
def wK (ws:List (Nat×Int)):List (B4×V):=ws.map fun w=>(Sum.inl (w.1:Int),V.int w.2)
theorem Wl:∀{ws:List (Nat×Int)} {i:Nat},i∉ws.map (·.1)→B5 (wK ws) (Sum.inl (i:Int))=none
 |[],_,_=>rfl
 | w::ws,i,h=>by
  show B5 ((Sum.inl (w.1:Int),V.int w.2)::wK ws) _=none
  rw [Bq]
  ·exact Wl fun c=>h (List.mem_cons_of_mem _ c)
  ·intro z
   have:w.1=i:=Int.ofNat.inj (Sum.inl.inj z)
   rw [←this] at h
   exact h List.mem_cons_self
theorem Wh:∀{ws:List (Nat×Int)} {w:Nat×Int},(ws.map (·.1)).Nodup→w∈ws→B5 (wK ws) (Sum.inl (w.1:Int))=some (.int w.2)
 | x::ws,w,nd,h=>by
  show B5 ((Sum.inl (x.1:Int),V.int x.2)::wK ws) _=_
  obtain ⟨n1,n2⟩:=List.nodup_cons.mp nd
  rcases List.mem_cons.mp h with e|h
  ·subst e
   exact B1 rfl
  ·rw [Bq]
   ·exact Wh n2 h
   ·intro z
    have:x.1=w.1:=Int.ofNat.inj (Sum.inl.inj z)
    exact n1 (List.mem_map.mpr ⟨w,h,this.symm⟩)
theorem Abz {L A T:Addr}{H:Hp}:Pm L A T H H:=fun _ _ _ _ _ e=>e
theorem Pm.tr {L A T:Addr}{H H1 H2:Hp}(h:Pm L A T H H1)(h':Pm L A T H1 H2):Pm L A T H H2:=fun b o n1 n2 n3 e=>h' b o n1 n2 n3 (h b o n1 n2 n3 e)
theorem Pm.sm {L A T:Addr}{H H1 H2:Hp}(h:Pm L A T H H1)(h':Ah H1 H2):Pm L A T H H2:=fun b o n1 n2 n3 e=>h' b o (h b o n1 n2 n3 e)
theorem Pm.up {L A T x:Addr}{H H1:Hp}{o:HO}(h:Pm L A T H H1)(n:H x=none):Pm L A T H (upd H1 x o):=fun b u n1 n2 n3 e=>by
 rw [Ak (fun z=>by rw [z,n] at e;cases e)]
 exact h b u n1 n2 n3 e
theorem Ahs {K:PySem.W.Frag}{L A R T a:Addr}{H H':Hp}{es:List En}{last:Int}{pos:Pos}{q:Str}{xs:List V}(h:Pm L A T H H')(lg:Cf K H L A R es last)(tk:A3 H T pos q)(s:Ay K H a xs):Ay K H' a xs:=by
 obtain ⟨C,dx,fs,eL,_,_,kvs,eA,_⟩:=lg
 obtain ⟨ps,eT,_⟩:=tk
 have go:∀o,H a=some o→(∀C dx fs,o≠.ins C dx fs)→(∀kvs,o≠.dK kvs)→(∀ps,o≠.tbl ps)→H' a=some o:=fun o e n1 n2 n3=>h a o (fun z=>by rw [z,eL] at e;exact n1 _ _ _ (Option.some.inj e).symm) (fun z=>by rw [z,eA] at e;exact n2 _ (Option.some.inj e).symm) (fun z=>by rw [z,eT] at e;exact n3 _ (Option.some.inj e).symm) e
 rcases s with (s|⟨ob,s⟩)|s
 ·exact .inl (.inl (go _ s (fun _ _ _=>nofun) (fun _=>nofun) (fun _=>nofun)))
 ·exact .inl (.inr ⟨ob,go _ s (fun _ _ _=>nofun) (fun _=>nofun) (fun _=>nofun)⟩)
 ·exact .inr s
theorem Cf.sxd {K:PySem.W.Frag}{H:Hp}{L A R x:Addr}{es:List En}{last:Int}{kv:List (B4×V)}{o:HO}(h:Cf K H L A R es last)(e:H x=some (.dK kv))(ne:A≠x):Cf K (upd H x o) L A R es last:=by
 obtain ⟨C,dx,fs,eL,hC,fd,kvs,eA,al⟩:=h
 have sx:Sx x H (upd H x o):=Sx.upd
 have kt:Kt H (upd H x o):=sx.kt' e
 exact ⟨C,dx,fs,sx _ _ (fun z=>by rw [z,e] at eL;cases eL) eL,hC,fd,kvs,sx _ _ ne eA,al.imp fun kv e r=>Fi kv e _ _ kt r⟩
structure Yy (K:PySem.W.Frag)(H H':Hp)(L A R Nd Sd Y:Addr)(nm:List Str)(gs:List Gm)(ys:List Nat)(ws:List (Nat×Int))(es:List En)(zs:List Int)(last:Int)(b:Nat):Prop where
 fr:Pm L A (Bx K) H H'
 tk:A3 H' (Bx K) Ce Gj
 lg:Cf K H' L A R es last
 ok:Ja nm es last
 zo:Zok es zs
 kp:kpt es zs=wE gs ws
 nd:H' Nd=some (.dK (wK ws))
 sd:H' Sd=some (.lst (zs.map V.int))
 yy:H' Y=some (.lst ((Iu ys).map V.int))
 le:es.length≤b
 lz:zs.length≤b
theorem Yy.sm {K:PySem.W.Frag}{H H' H2:Hp}{L A R Nd Sd Y:Addr}{nm:List Str}{gs:List Gm}{ys:List Nat}{ws:List (Nat×Int)}{es:List En}{zs:List Int}{last:Int}{b:Nat}(h:Yy K H H' L A R Nd Sd Y nm gs ys ws es zs last b)(s:Ah H' H2):Yy K H H2 L A R Nd Sd Y nm gs ys ws es zs last b:=⟨h.fr.sm s,h.tk.up s,h.lg.up s,h.ok,h.zo,h.kp,s _ _ h.nd,s _ _ h.sd,s _ _ h.yy,h.le,h.lz⟩
theorem Yy.more {K:PySem.W.Frag}{H H':Hp}{L A R Nd Sd Y:Addr}{nm:List Str}{gs:List Gm}{ys:List Nat}{ws:List (Nat×Int)}{es:List En}{zs:List Int}{last:Int}{b c:Nat}(h:Yy K H H' L A R Nd Sd Y nm gs ys ws es zs last b)(l:b≤c):Yy K H H' L A R Nd Sd Y nm gs ys ws es zs last c:=⟨h.fr,h.tk,h.lg,h.ok,h.zo,h.kp,h.nd,h.sd,h.yy,Nat.le_trans h.le l,Nat.le_trans h.lz l⟩
theorem Xm (zs:List Int)(z:Int):zs.map V.int++[V.int z]=(zs++[z]).map V.int:=by
 rw [List.map_append]
 rfl
theorem Yy.take {K:PySem.W.Frag}{H H' H2:Hp}{L A R Nd Sd Y:Addr}{nm:List Str}{gs:List Gm}{ys:List Nat}{ws:List (Nat×Int)}{es:List En}{zs:List Int}{last:Int}{b u:Nat}{z:Int}(h:Yy K H H' L A R Nd Sd Y nm gs ys ws es zs last b)(hz:zs[u]? =some z)(nS:H Sd=none)(nNS:Nd≠Sd)(nYS:Y≠Sd)(nNA:Nd≠A)
  (fr:Pm L A (Bx K) (upd H' Sd (.lst ((zs.eraseIdx u).map V.int))) H2) (tk:A3 H2 (Bx K) Ce Gj) (lg:Cf K H2 L A R (wo es z) last):Yy K H H2 L A R Nd Sd Y nm gs ys ws (wo es z) (zs.eraseIdx u) last b:=by
 obtain ⟨k1,k2⟩:=Abg h.zo hz
 have sx:Sx Sd H' (upd H' Sd (.lst ((zs.eraseIdx u).map V.int))):=Sx.upd
 obtain ⟨ps,tt,_⟩:=id h.tk
 obtain ⟨C,dx,fs,eL,_⟩:=id h.lg
 have keep:∀{b o},b≠Sd→b≠A→(∀C dx fs,o≠.ins C dx fs)→(∀ps,o≠.tbl ps)→H' b=some o→H2 b=some o:=fun {b o} n1 n2 n3 n4 e=>fr b o (fun z=>by rw [z,eL] at e;exact n3 _ _ _ (Option.some.inj e).symm) n2 (fun z=>by rw [z,tt] at e;exact n4 _ (Option.some.inj e).symm) (sx _ _ n1 e)
 obtain ⟨_,_,_,_,_,_,kv,eA,_⟩:=id h.lg
 refine ⟨(h.fr.up nS).tr fr,tk,lg,⟨h.ok.inc.sublist List.filter_sublist,fun e he=>h.ok.le e (List.mem_filter.mp he).1,fun e he=>h.ok.mem e (List.mem_filter.mp he).1⟩,k2,k1.trans h.kp,keep nNS nNA (fun _ _ _=>nofun) (fun _=>nofun) h.nd,?_,keep nYS (fun z=>by have:=h.yy;rw [z,eA] at this;cases this) (fun _ _ _=>nofun) (fun _=>nofun) h.yy,Nat.le_trans (List.length_filter_le ..) h.le,Nat.le_trans (List.eraseIdx_sublist ..).length_le h.lz⟩
 have e:=h.sd
 exact fr _ _ (fun z=>by rw [z,eL] at e;cases e) (fun z=>by rw [z,eA] at e;cases e) (fun z=>by rw [z,tt] at e;cases e) Ad
def Sl (K:PySem.W.Frag)(ns:List Int):Sp:=fun vs H Q _=>match vs with
 |[.ref L,.ref a,.ref G,.ref NL,.int ds]=>∃(A R:Addr) (gs:List Gm) (vs:List V) (nm:List Str),(Cf K H L A R [] 0∧A3 H (Bx K) Ce Gj∧Ay K H a (ns.map V.int)∧Rm ns∧(H G=some (.lst vs)∧At (Bw H) vs gs∧gs.length≤20∧∀g∈gs,g.a∈nm∧g.b∈nm)∧H NL=some (.lst (nm.map V.str))∧2≤nm.length∧nm.length≤8∧nm.Nodup∧1≤ds) ∧
  ∀D (ws:List (Nat×Int)) last H',Pm L A (Bx K) H H'→H D=none→H' D=some (.dK (wK ws))→Cf K H' L A R (wE gs ws) last→A3 H' (Bx K) Ce Gj→Ja nm (wE gs ws) last→(ws.map (·.1)).Perm (List.range gs.length)→(ws.map (·.1)).Pairwise (fun i j=>dk gs i=dk gs j→i<j)→Q (.ref D) H'
 |_=>False
theorem Fj:Al ["_law_ledger","_law_script","_law_games","_law_names_here","_law_days","_law_numbers","_law_strange","_law_step","_law_at","_law_cell_here"] ["_law_ledger","_law_script","_law_games","_law_names_here","_law_days"] (Af Rf):=⟨rfl,rfl,rfl,by decide +kernel,rfl,by decide +kernel,by decide +kernel⟩
theorem Abp (d:B8 K mg "_law_fed" Rf ["_law_ledger","_law_script","_law_games","_law_names_here","_law_days"])(er:Bg K mg c_Capped c_Early c_Ledger c_NoTable c_Rested c_Rule)(n_enumerate:mg "enumerate"=none)(n_len:mg "len"=none)  (c_Ledger_take:Be P w K mg base [c_Ledger] [] "take" ["self","number"] 6 (Ep K ns))(c_l_shuffled:Bm P w K mg base "_law_shuffled" ["_law_script","_law_games"] 2 (Hi K ns))(c_Ledger_put:Be P w K mg base [c_Ledger] [] "put" ["self","played"] 6 (Fa K ns))(c_l_game:Bm P w K mg base "_law_game" ["_law_cell_here","_law_names_here","_law_days"] 1 (J3 K ns))(c_l_cell:Bm P w K mg base "_law_cell" ["_law_script","_law_k"] 1 (Fk K ns)):Bm P w K mg base "_law_fed" ["_law_ledger","_law_script","_law_games","_law_names_here","_law_days"] 7 (Sl K ns):=by
 refine d.cal (k:=6) Fj (fun vs H Q E h=>?_) (fun f cdv A outer s H vs Q E hr h=>?_)
 ·match vs,h with
  |[.ref L,.ref a,.ref G,.ref NL,.int ds],_=>rfl
 ·match vs,h with
  | [.ref L,.ref a,.ref G,.ref NL,.int ds],hq0=>
   obtain ⟨A,R,gs,vs,nm,⟨lg0,tk0,hS,hb,⟨hG,al,l20,gm⟩,hN,n2,n8,nd,d1⟩,k⟩:=hq0
   refine ⟨_,(@Ae _ _ _ _ _ (@Au _ _ (5) _ _ _ _ Fj.nd rfl (by trivial) Gr (by rfl) (by trivial)) (@Ae _ _ _ _ _ (@Au _ _ (6) _ _ _ _ Fj.nd rfl (by trivial) (@Do _ _ _ _ Ac) (by rfl) (by trivial)) (@Ae _ _ _ _ _ (@G7 _ _ _ _ _ _ _ _ PassesOwn.never rfl (@Acz _ _ _ _ _ _ _ _ (by rfl) n_enumerate (@Aa _ _ _ _ _ (@An _ _ _ _ _ _ _ _ _ _ _ c_l_shuffled hr (by decide) (by rfl) (@Aa _ _ _ _ _ (dv 1) (@Aa _ _ _ _ _ (dv 2) Ac (by rfl)) (by rfl)) (by decide) (by rfl) (by rfl)) Ac (by rfl)) (by rfl)) (@U2 _ _ _ _ _ _ rfl (@C4 _ _ _ _ _ (@A6 _ _ (7) _ Fj.nd rfl (by trivial) (by trivial)) (@C4 _ _ _ _ _ (@A6 _ _ (8) _ Fj.nd rfl (by trivial) (by trivial)) Qi (by rfl)) (by rfl)) (by rfl) (by rfl)) (@Ae _ _ _ _ _ (@Au _ _ (9) _ _ _ _ Fj.nd rfl (by trivial) (@Aj _ _ _ _ _ _ _ _ Ew (@An _ _ _ _ _ _ _ _ _ _ _ c_l_cell hr (by decide) (by rfl) (@Aa _ _ _ _ _ (dv 1) (@Aa _ _ _ _ _ (@Aj _ _ _ _ _ _ _ _ Cg Ab (@Aj _ _ _ _ _ _ _ _ Bn (dv 7) Ab)) Ac (by rfl)) (by rfl)) (by decide) (by rfl) (by rfl)) (@Aj _ _ _ _ _ _ _ _ Cg Ab (dv 7))) (by rfl) (by trivial)) (@Eu _ _ _ _ _ (@D8 _ _ _ _ _ _ _ _ (@L2.PW.pt _ _ _ (@Aaz _ _ _ _ _ _ _ (@Bv _ _ _ _ _ _ _ _ N5 (@Aj _ _ _ _ _ _ _ _ Bn (dv 9) Ab) Ab (@A5 _ _ (by decide) (by decide))) (@Qs _ _ _ _ (@Bv _ _ _ _ _ _ _ _ Vl (@Aw _ _ _ _ _ _ _ _ _ Df (by rfl) n_len (by decide +kernel) (@Aa _ _ _ _ _ (dv 6) Ac (by rfl)) (by decide) (by decide) (by rfl) (by rfl)) Ab (@A5 _ _ (by decide) (by decide)))))) (@Ag _ _ _ (@Bs _ _ _ _ (@G4 _ _ _ _ _ _ _ _ _ _ _ _ PySem.F.plainAttrs_list PySem.F.slot_list_append PySem.F.type_list_append Dm (dv 6) (@Aa _ _ _ _ _ (@Ap _ _ _ _ _ _ _ Av (Dr (dv 0) (Az c_Ledger_put (List.Mem.head _) er.l_Ledger (by decide) B3) hr (@Aa _ _ _ _ _ (@An _ _ _ _ _ _ _ _ _ _ _ c_l_game hr (by decide) (by rfl) (@Aa _ _ _ _ _ (@Aj _ _ _ _ _ _ _ _ Bn (@Aj _ _ _ _ _ _ _ _ Ew (dv 9) Ab) (@Aj _ _ _ _ _ _ _ _ Xe Ab Ab)) (@Aa _ _ _ _ _ (dv 3) (@Aa _ _ _ _ _ (dv 4) Ac (by rfl)) (by rfl)) (by rfl)) (by decide) (by rfl) (by rfl)) Ac (by rfl))) Ab (fun _ _=>rfl)) Ac (by rfl)) (by rfl) (by rfl) (by rfl) (by rfl) (by rfl)) (by rfl))) A8) (@Eu _ _ _ _ _ (@Je _ _ _ _ _ _ _ _ _ (@u1 _ _ hr.units) (dv 5) (dv 8) (@Ap _ _ _ _ _ _ _ Av (Dr (dv 0) (Az c_Ledger_put (List.Mem.head _) er.l_Ledger (by decide) B3) hr (@Aa _ _ _ _ _ (@Ap _ _ _ _ _ _ _ Dd (dv 2) (dv 8) (fun _ _=>rfl)) Ac (by rfl))) Ab (fun _ _=>rfl)) rfl) (@Ag _ _ _ (@D8 _ _ _ _ _ _ _ _ (@L2.PW.pt _ _ _ (@Aaz _ _ _ _ _ _ _ (@Bv _ _ _ _ _ _ _ _ N5 (@Aj _ _ _ _ _ _ _ _ Bn (dv 9) Ab) Ab (@A5 _ _ (by decide) (by decide))) (@Qs _ _ _ _ (@Bv _ _ _ _ _ _ _ _ (@O0 _ hr.units) (dv 6) (@Do _ _ _ _ Ac) (@A5 _ _ (by decide) (by decide)))))) (@Ag _ _ _ (@Bs _ _ _ _ (Dr (dv 0) (Az c_Ledger_take (List.Mem.head _) er.l_Ledger (by decide) B3) hr (@Aa _ _ _ _ _ (@G4 _ _ _ _ _ _ _ _ _ _ _ _ PySem.F.plainAttrs_list PySem.F.slot_list_pop PySem.F.type_list_pop Lh (dv 6) (@Aa _ _ _ _ _ (@Aj _ _ _ _ _ _ _ _ Bn (@Aj _ _ _ _ _ _ _ _ Ew (dv 9) Ab) (@Aw _ _ _ _ _ _ _ _ _ Df (by rfl) n_len (by decide +kernel) (@Aa _ _ _ _ _ (dv 6) Ac (by rfl)) (by decide) (by decide) (by rfl) (by rfl))) Ac (by rfl)) (by rfl) (by rfl) (by rfl) (by rfl) (by rfl)) Ac (by rfl))) (by rfl))) A8))))) (by intro _;rfl)) (@Ae _ _ _ _ _ (@Qx _ _ _ _ _ _ PassesOwn.never (@Bv _ _ _ _ _ _ _ _ (@O0 _ hr.units) (dv 6) (@Do _ _ _ _ Ac) (@A5 _ _ (by decide) (by decide))) (@Ag _ _ _ (@Bs _ _ _ _ (Dr (dv 0) (Az c_Ledger_take (List.Mem.head _) er.l_Ledger (by decide) B3) hr (@Aa _ _ _ _ _ (@G4 _ _ _ _ _ _ _ _ _ _ _ _ PySem.F.plainAttrs_list PySem.F.slot_list_pop PySem.F.type_list_pop Lh (dv 6) (@Aa _ _ _ _ _ Ab Ac (by rfl)) (by rfl) (by rfl) (by rfl) (by rfl) (by rfl)) Ac (by rfl))) (by rfl)))) (@Ag _ _ _ (@Aq _ _ _ _ (dv 5))))))),?_⟩
   have cls:∀{H':Hp} {es':List En} {last':Int},Cf K H' L A R es' last'→∃dx fs,H' L=some (.ins c_Ledger dx fs)∧LFd fs A R last':=fun h=>by
    obtain ⟨C,dx,fs,eL,hC,fd,_⟩:=h
    have hCc:=Ao hC er.y_Ledger
    subst hCc
    exact ⟨dx,fs,eL,fd⟩
   have lv:=al.len
   refine fun Nd hNd=>?_
   have s1:Ah H (upd H Nd (.dK [])):=Am hNd
   have e1:upd H Nd (.dK []) Nd=some (.dK []):=Ad
   generalize upd H Nd (.dK [])=H1 at s1 e1
   refine ⟨by decide,fun Sd hSd=>?_⟩
   have nSd:H Sd=none:=Bl s1 hSd
   have nNS:Nd≠Sd:=fun z=>by rw [z,hSd] at e1;cases e1
   have s2:Ah H1 (upd H1 Sd (.lst [])):=Am hSd
   have e2:upd H1 Sd (.lst []) Sd=some (.lst []):=Ad
   generalize upd H1 Sd (.lst [])=H2 at s2 e2
   have s02:=s1.trans s2
   refine ⟨gs,vs,⟨s02.seq hS,hb,s02 _ _ hG,al.imp fun v g r=>B6 v g _ _ (A7 s02) r,l20⟩,fun Y ys H3 s3 nY eY pY pwY=>?_⟩
   have s03:=s02.trans s3
   have nNA:Nd≠A:=fun z=>by
    obtain ⟨_,_,_,_,_,_,kv,eA,_⟩:=id lg0
    rw [←z,hNd] at eA
    cases eA
   have nYS:Y≠Sd:=fun z=>by rw [z,e2] at nY;cases nY
   have nYN:Y≠Nd:=fun z=>by rw [z,s2 _ _ e1] at nY;cases nY
   have lY:ys.length=gs.length:=by
    have:=pY.length_eq
    rwa [List.length_range] at this
   refine ⟨⟨_,Ay.of eY⟩,Abe (K:=K) (a:=Y) (xs:=(Iu ys).map V.int) (fun i σ H'=>∃(ws:List (Nat×Int)) (es:List En) (zs:List Int) (last:Int) (o7 o8 o9:Option V),σ=[some (.ref L),some (.ref a),some (.ref G),some (.ref NL),some (.int ds),some (.ref Nd),some (.ref Sd),o7,o8,o9]∧ws.map (·.1)=ys.take i∧Yy K H H' L A R Nd Sd Y nm gs ys ws es zs last (2*i)) ⟨[],[],[],0,none,none,none,rfl,rfl,⟨Abz.sm s03,tk0.up s03,lg0.up s03,⟨.nil,fun e h=>by (cases h),fun e h=>by (cases h)⟩,⟨.nil,fun e h=>by (cases h)⟩,rfl,s3 _ _ (s2 _ _ e1),s3 _ _ e2,eY,Nat.le_refl _,Nat.le_refl _⟩⟩ (fun i σ H' ⟨_,_,_,_,_,_,_,_,_,f⟩=>Ay.of f.yy) ?_ ?_⟩
   ·intro i x t σ H4 hx ht ⟨ws,es,zs,last,o7,o8,o9,hσ,hw,f⟩
    subst hσ
    have il:i<ys.length:=by
     have:=(List.getElem?_eq_some_iff.mp hx).1
     rwa [Ju] at this
    obtain ⟨q,hq⟩:∃q,ys[i]? =some q:=⟨_,List.getElem?_eq_getElem il⟩
    have ex:x=.int (q:Int):=Option.some.inj (hx.symm.trans (P6 hq))
    subst ex
    have s5:Ah H4 (upd H4 t (.tup [.int ((i:Nat):Int),.int (q:Int)])):=Am ht
    have e5:upd H4 t (.tup [.int ((i:Nat):Int),.int (q:Int)]) t=some (.tup [.int ((i:Nat):Int),.int (q:Int)]):=Ad
    generalize upd H4 t (.tup [.int ((i:Nat):Int),.int (q:Int)])=H5 at s5 e5
    have f:=f.sm s5
    have bi:Bd 4000 (1+((i:Nat):Int)):=Dy (b:=100) (by omega) (by omega) (A0 rfl)
    refine ⟨t,_,rfl,E4.of e5,rfl,_,_,rfl,_,_,rfl,rfl,(by show (0:Int)<9;decide),Ahs f.fr lg0 tk0 hS,⟨by show 0≤30+((i:Nat):Int) % 9;omega,by show 30+((i:Nat):Int) % 9<1000;omega,hb⟩,fun c=>⟨⟨by show 0<1+((i:Nat):Int);omega,bi⟩,?_⟩⟩
    refine ⟨fun σ H'=>∃(es:List En) (zs:List Int) (last:Int),σ=[some (.ref L),some (.ref a),some (.ref G),some (.ref NL),some (.int ds),some (.ref Nd),some (.ref Sd),some (.int ((i:Nat):Int)),some (.int (q:Int)),some (.int (c / (1+((i:Nat):Int))))]∧Yy K H H' L A R Nd Sd Y nm gs ys ws es zs last (2*i+1),?_,?_⟩
    ·refine ⟨(by show (0:Int)<3;decide),⟨fun _=>⟨_,.inl (Ay.of f.sd),⟨fun _=>?_,fun _=>⟨es,zs,last,rfl,f.more (by omega)⟩⟩⟩,fun _=>⟨fun h=>nb h,fun _=>⟨es,zs,last,rfl,f.more (by omega)⟩⟩⟩⟩
     obtain ⟨kl0,kt0⟩:=Ef f.fr lg0 tk0
     obtain ⟨dx0,fs0,eL0,fd0⟩:=cls f.lg
     refine ⟨.inl ⟨rfl,_,Ay.of f.sd⟩,L,_,dx0,fs0,_,rfl,eL0,.head _,fd0.pu,⟨by decide,A0 rfl⟩,⟨by decide,by decide,by decide⟩,(by show (0:Int)<10 ^ Int.toNat 12;decide),nm,⟨kl0 _ _ hN,n2,n8,nd,d1⟩,fun v g H6 s6 hg ga gb ne h0 h2=>?_⟩
     obtain ⟨pv,rfl,hpv⟩:=hg
     have f6:=f.sm s6
     obtain ⟨dx,fs,eL,fd⟩:=cls f6.lg
     have le:=f.le
     refine ⟨A,R,es,last,g,nm,⟨f6.lg,f6.ok,by omega,n8,⟨pv,rfl,hpv⟩,ga,gb,f6.tk⟩,fun r D H7 p fr nD er7 lg7 tk7 eD stb=>⟨_,er7,?_⟩⟩
     obtain ⟨klF,ktF⟩:=Ef fr f6.lg f6.tk
     have eS7:=klF _ _ f6.sd
     have lz:=f.lz
     refine ⟨Sd,_,_,rfl,rfl,eS7,Nat.lt_of_le_of_lt (show (zs.map V.int).length≤100 by rw [List.length_map];omega) (by decide),?_⟩
     obtain ⟨k1,k2⟩:=Tz (g:=g) f6.ok f6.zo
     obtain ⟨ps,tt,_⟩:=id f6.tk
     have sx:Sx Sd H7 (upd H7 Sd (.lst (zs.map V.int++[.int (last+1)]))):=Sx.upd
     have eN7:H7 Nd=some (.dK (wK ws)):=fr _ _ (fun z=>by have:=f6.nd;rw [z,eL] at this;cases this) nNA (fun z=>by have:=f6.nd;rw [z,tt] at this;cases this) f6.nd
     exact ⟨es++[(last+1,g)],zs++[last+1],last+1,rfl,⟨(f6.fr.tr fr).up nSd,Dg tk7 Sx.upd (.inl ⟨_,eS7⟩),lg7.sxl eS7,Xc f6.ok ga gb,k2,k1.trans f6.kp,sx _ _ nNS eN7,by rw [←Xm];exact Ad,sx _ _ nYS (klF _ _ f6.yy),by rw [List.length_append];show es.length+1≤_;omega,by rw [List.length_append];show zs.length+1≤_;omega⟩⟩
    clear f
    rintro σ H6 ⟨es,zs,last,rfl,f⟩
    obtain ⟨kl0,kt0⟩:=Ef f.fr lg0 tk0
    have qR:q<gs.length:=List.mem_range.mp (pY.mem_iff.mp (List.mem_of_getElem? hq))
    obtain ⟨g,hg,p0,ev,hp0⟩:=al.get (List.getElem?_eq_getElem (show q<vs.length by omega))
    have eg:gs.getD q gz=g:=by rw [List.getD_eq_getElem?_getD,hg];rfl
    obtain ⟨ga,gb⟩:=gm g (List.mem_of_getElem? hg)
    have nq:q∉ws.map (·.1):=fun z=>by
     rw [hw] at z
     have ndY:ys.Nodup:=pY.nodup_iff.mpr List.nodup_range
     obtain ⟨j,hj,e⟩:=List.getElem_of_mem z
     rw [List.length_take] at hj
     rw [List.getElem_take] at e
     obtain ⟨h1,h2⟩:=List.getElem?_eq_some_iff.mp hq
     have:=(List.getElem_inj ndY).mp (e.trans h2.symm)
     omega
    refine ⟨fun σ H'=>∃(last:Int) (es:List En),σ=[some (.ref L),some (.ref a),some (.ref G),some (.ref NL),some (.int ds),some (.ref Nd),some (.ref Sd),some (.int ((i:Nat):Int)),some (.int (q:Int)),some (.int (c / (1+((i:Nat):Int))))]∧Yy K H H' L A R Nd Sd Y nm gs ys (ws++[(q,last)]) es zs last (2*i+2),?_,?_⟩
    ·obtain ⟨dx,fs,eL,fd⟩:=cls f.lg
     have le:=f.le
     have lz:=f.lz
     refine ⟨L,_,dx,fs,_,rfl,eL,.head _,fd.pu,_,.ref p0,Ay.of (kl0 _ _ hG),C5 (by rw [List.getElem?_eq_getElem (show q<vs.length by omega),ev]),A,R,es,last,g,nm,⟨f.lg,f.ok,by omega,n8,⟨p0,rfl,kt0 _ _ hp0⟩,ga,gb,f.tk⟩,fun r D H7 p fr nD er7 lg7 tk7 eD stb=>⟨_,er7,?_⟩⟩
     obtain ⟨klF,ktF⟩:=Ef fr f.lg f.tk
     obtain ⟨ps,tt,_⟩:=id f.tk
     have eN7:H7 Nd=some (.dK (wK ws)):=fr _ _ (fun z=>by have:=f.nd;rw [z,eL] at this;cases this) nNA (fun z=>by have:=f.nd;rw [z,tt] at this;cases this) f.nd
     have lw:ws.length=i:=by
      have:=congrArg List.length hw
      rw [List.length_map,List.length_take] at this
      omega
     refine ⟨Nd,_,rfl,Q7.k (k:=Sum.inl (q:Int)) eN7 (Nat.lt_of_le_of_lt (show (wK ws).length≤100 by unfold wK;rw [List.length_map];omega) (by decide)),?_⟩
     rw [Sk _ (Wl nq)]
     obtain ⟨k1,k2⟩:=Zp (g:=g) f.ok f.zo
     have sx:Sx Nd H7 (upd H7 Nd (.dK (wK ws++[(Sum.inl (q:Int),.int (last+1))]))):=Sx.upd
     refine ⟨last+1,es++[(last+1,g)],rfl,⟨(f.fr.tr fr).up hNd,Dg tk7 Sx.upd (.inr ⟨_,eN7⟩),lg7.sxd eN7 (Ne.symm nNA),Xc f.ok ga gb,k2,?_,?_,sx _ _ (Ne.symm nNS) (klF _ _ f.sd),sx _ _ nYN (klF _ _ f.yy),by rw [List.length_append];show es.length+1≤_;omega,by omega⟩⟩
     ·rw [k1,f.kp]
      unfold wE
      rw [List.map_append]
      show _=_++[(last+1,gs.getD q gz)]
      rw [eg]
     ·have:wK (ws++[(q,last+1)])=wK ws++[(Sum.inl (q:Int),.int (last+1))]:=by
       unfold wK
       rw [List.map_append]
       rfl
      rw [this]
      exact Ad
    clear f kl0 kt0
    rintro σ H7 ⟨last,es,rfl,f⟩
    have hw':(ws++[(q,last)]).map (·.1)=ys.take (i+1):=by
     rw [List.map_append,hw,List.take_add_one,hq]
     rfl
    refine ⟨(by show (0:Int)<4;decide),⟨fun _=>⟨by decide,fun Z hZ=>?_⟩,fun _=>⟨fun h=>nb h,fun _=>⟨ws++[(q,last)],es,zs,last,_,_,_,rfl,hw',f.more (by omega)⟩⟩⟩⟩
    have s8:Ah H7 (upd H7 Z (.lst [])):=Am hZ
    have e8:upd H7 Z (.lst []) Z=some (.lst []):=Ad
    generalize upd H7 Z (.lst [])=H8 at s8 e8
    have f:=f.sm s8
    refine ⟨_,_,.lst (Ay.of f.sd) (Lg _),.lst (Ay.of e8) .nil,Vs _,rfl,⟨fun h=>?_,fun _=>⟨ws++[(q,last)],es,zs,last,_,_,_,rfl,hw',f.more (by omega)⟩⟩⟩
    have z0:0<zs.length:=List.length_pos_iff.mpr (Rr h)
    have lzm:(zs.map V.int).length=zs.length:=List.length_map _
    have u0:=Int.emod_nonneg (c / (1+((i:Nat):Int)) / 4) (show (zs.length:Int)≠0 by omega)
    have u1:=Int.emod_lt_of_pos (c / (1+((i:Nat):Int)) / 4) (show 0<(zs.length:Int) by omega)
    obtain ⟨u,hu⟩:∃u:Nat,c / (1+((i:Nat):Int)) / 4 % (zs.length:Int)=u:=⟨_,(Int.toNat_of_nonneg u0).symm⟩
    have ul:u<zs.length:=by omega
    obtain ⟨z,hz⟩:∃z,zs[u]? =some z:=⟨_,List.getElem?_eq_getElem ul⟩
    obtain ⟨dx,fs,eL,fd⟩:=cls f.lg
    have le:=f.le
    have lz:=f.lz
    refine ⟨L,_,dx,fs,_,rfl,eL,.head _,fd.ta,.inl ⟨rfl,_,Ay.of f.sd⟩,⟨by decide,A0 rfl⟩,_,.inl (Ay.of f.sd),by rw [lzm];show 0<(zs.length:Int);omega,Sd,_,_,u,.int z,rfl,rfl,f.sd,by (rw [lzm,hu];omega),by (rw [lzm,hu];omega),by (rw [lzm,hu];exact Va ul),by rw [List.getElem?_map,hz];rfl,?_⟩
    rw [P4]
    obtain ⟨g,mn⟩:=f.zo.mem z (List.mem_of_getElem? hz)
    refine ⟨A,R,es,last,g,nm,⟨f.lg.sxl f.sd,f.ok,by omega,n8,mn,Dg f.tk Sx.upd (.inl ⟨_,f.sd⟩)⟩,fun D H9 p fr nD lg9 tk9 eD stb=>?_⟩
    exact ⟨ws++[(q,last)],_,_,last,_,_,_,rfl,hw',(f.take hz nSd nNS nYS nNA fr tk9 lg9).more (by omega)⟩
   ·rintro σ H4 ⟨ws,es,zs,last,o7,o8,o9,rfl,hw,f⟩
    rw [Ju,List.take_length] at hw
    rw [Ju] at f
    refine ⟨fun m σ H'=>∃(es:List En) (zs:List Int),σ=[some (.ref L),some (.ref a),some (.ref G),some (.ref NL),some (.int ds),some (.ref Nd),some (.ref Sd),o7,o8,o9]∧zs.length=m∧Yy K H H' L A R Nd Sd Y nm gs ys ws es zs last 40,⟨_,es,zs,rfl,rfl,f.more (by omega)⟩,?_⟩
    clear f
    rintro m σ H5 ⟨es,zs,rfl,lm,f⟩
    refine ⟨by decide,fun Z hZ=>?_⟩
    have s6:Ah H5 (upd H5 Z (.lst [])):=Am hZ
    have e6:upd H5 Z (.lst []) Z=some (.lst []):=Ad
    generalize upd H5 Z (.lst [])=H6 at s6 e6
    have f:=f.sm s6
    refine ⟨_,_,.lst (Ay.of f.sd) (Lg _),.lst (Ay.of e6) .nil,Vs _,rfl,⟨fun h=>?_,fun h=>?_⟩⟩
    ·have z0:0<zs.length:=List.length_pos_iff.mpr (Rr h)
     obtain ⟨z,hz⟩:∃z,zs[0]? =some z:=⟨_,List.getElem?_eq_getElem z0⟩
     obtain ⟨dx,fs,eL,fd⟩:=cls f.lg
     have le:=f.le
     have lz:=f.lz
     have lzm:(zs.map V.int).length=zs.length:=List.length_map _
     refine ⟨L,_,dx,fs,_,rfl,eL,.head _,fd.ta,.inl ⟨rfl,_,Ay.of f.sd⟩,Sd,_,_,0,.int z,rfl,rfl,f.sd,by omega,by omega,by (rw [lzm];exact Va (u:=0) z0),by rw [List.getElem?_map,hz];rfl,?_⟩
     rw [P4]
     obtain ⟨g,mn⟩:=f.zo.mem z (List.mem_of_getElem? hz)
     refine ⟨A,R,es,last,g,nm,⟨f.lg.sxl f.sd,f.ok,by omega,n8,mn,Dg f.tk Sx.upd (.inl ⟨_,f.sd⟩)⟩,fun D H9 p fr nD lg9 tk9 eD stb=>?_⟩
     exact ⟨zs.length-1,by omega,_,_,rfl,by rw [List.length_eraseIdx_of_lt z0],f.take hz nSd nNS nYS nNA fr tk9 lg9⟩
    ·have z:=Wy h
     subst z
     have ee:es=wE gs ws:=by
      rw [←f.kp]
      unfold kpt
      exact (List.filter_eq_self.mpr fun e _=>by simp).symm
     have lg:=f.lg
     have ok:=f.ok
     rw [ee] at lg ok
     exact k Nd ws last H6 f.fr hNd f.nd lg f.tk ok (by rw [hw];exact pY) (by rw [hw];exact pwY)
theorem Rn.ex {α:Type}{key:Nat→Int}{n:Nat}{R:α→Prop}:∀{t:PySem.W.KasT α},Rn key n t R→∃a,R a
 |.ret a,h=>⟨a,h⟩
 |.ask _ _ k,⟨_,_,h⟩=>Rn.ex (t:=k _) h
theorem U1 (key:Nat→Int)(n:Nat):∃p,Fx key n p:=by
 by_cases c:n<2
 ·exact ⟨_,P0 c⟩
 ·obtain ⟨p,h1,h2⟩:=Rn.ex (Qd (key:=key) (show 1≤n by omega))
  exact ⟨_,Vu h1 h2⟩
def BG (es:List En)(gs:List Gm):Prop:=∀p q,Fx (dk (es.map (·.2))) (es.map (·.2)).length p→Fx (dk gs) gs.length q→pg (es.map (·.2)) p=pg gs q
theorem Vr {gs:List Gm}{p:List Nat}(h:Fx (dk gs) gs.length p):(pg gs p).Perm gs:=by
 have:=(Fu h).filterMap fun j=>gs[j]?
 exact this.trans (.of_eq (Y7 gs))
theorem BG.perm {es:List En}{gs:List Gm}(h:BG es gs):(es.map (·.2)).Perm gs:=by
 obtain ⟨p,hp⟩:=U1 (dk (es.map (·.2))) (es.map (·.2)).length
 obtain ⟨q,hq⟩:=U1 (dk gs) gs.length
 have:=h p q hp hq
 exact (Vr hp).symm.trans (this▸Vr hq)
theorem BG.plr {es:List En}{gs:List Gm}(h:BG es gs):plr (es.map (·.2))=plr gs:=Hb (Cn _) (Cn _) fun x=>by
 show x∈Lw.plr (es.map (·.2))↔x∈Lw.plr gs
 rw [Ge,Ge]
 exact ⟨fun ⟨g,hg,c⟩=>⟨g,h.perm.mem_iff.mp hg,c⟩,fun ⟨g,hg,c⟩=>⟨g,h.perm.mem_iff.mpr hg,c⟩⟩
theorem Yp {l m gs:List Gm}(h1:l.Perm gs)(h2:m.Perm gs)(p1:l.Pairwise fun a b=>¬Yd b a)(p2:m.Pairwise fun a b=>¬Yd b a):l=m:=
 List.Perm.eq_of_pairwise (le:=fun a b=>¬Yd b a) (fun a b _ _ x y=>by
  rcases Wt a b with c|c|c
  ·exact absurd c y
  ·exact c
  ·exact absurd c x) p1 p2 (h1.trans h2.symm)
def Mv (K:PySem.W.Frag)(ns:List Int):Sp:=fun vs H Q _=>match vs with
 |[.ref M1,.ref M2,.ref G,.ref Rl]=>∃(N:Hp) (A1 R1 A2 R2:Addr) (es1 es2:List En) (last1 last2 so st fi one two:Int) (rows:List Rw) (gs:List Gm) (vs:List V) (nm:List Str),(Cf K H M1 A1 R1 es1 last1∧Cf K H M2 A2 R2 es2 last2∧A3 H (Bx K) Ce Gj∧(H G=some (.lst vs)∧At (Bw H) vs gs∧gs.length≤20∧(∀g∈gs,g.a∈nm∧g.b∈nm)∧(∀g∈gs,(0≤g.h∧g.h≤2)∧g.a≠g.b)∧∀x∈nm,PyData.strOk x=true)∧(BG es1 gs∧BG es2 gs)∧(Ah N H∧N (Bx K)=none∧Ir K N R1 so st fi one two rows∧Ir K N R2 so st fi one two rows∧Ir K N Rl so st fi one two rows)∧Tb rows∧Nb st one two∧Bd 40 fi) ∧
  ∀H',Xt (Bx K) H H'→A3 H' (Bx K) Ce Gj→Q (.bl true) H'
 |_=>False
theorem Hv:Al ["_law_one","_law_other","_law_games","_law_rule_here","_law_book","_law_due"] ["_law_one","_law_other","_law_games","_law_rule_here"] (Af J2):=⟨rfl,rfl,rfl,by decide +kernel,rfl,by decide +kernel,by decide +kernel⟩
theorem Uo (d:B8 K mg "_law_alike" J2 ["_law_one","_law_other","_law_games","_law_rule_here"])(er:Bg K mg c_Capped c_Early c_Ledger c_NoTable c_Rested c_Rule)(n_sorted:mg "sorted"=none)  (c_Ledger_worths:Be P w K mg base [c_Ledger] [] "worths" ["self"] 11 (Dj K ns))(c_running:Bm P w K mg base "running" ["rule","games"] 10 (Ia K ns))(c_Ledger_games:Be P w K mg base [c_Ledger] [] "games" ["self"] 4 (Co K ns)):Bm P w K mg base "_law_alike" ["_law_one","_law_other","_law_games","_law_rule_here"] 12 (Mv K ns):=by
 refine d.cal (k:=11) Hv (fun vs H Q E h=>?_) (fun f cdv A outer s H vs Q E hr h=>?_)
 ·match vs,h with
  |[.ref M1,.ref M2,.ref G,.ref Rl],_=>rfl
 ·match vs,h with
  | [.ref M1,.ref M2,.ref G,.ref Rl],hq0=>
   obtain ⟨N,A1,R1,A2,R2,es1,es2,last1,last2,so,st,fi,one,two,rows,gs,vs,nm,⟨lg1,lg2,tk,⟨hG,al,l20,gm,gok,sok⟩,⟨bg1,bg2⟩,⟨sN,nT,hR1,hR2,hRl⟩,tb,b,bf⟩,k⟩:=hq0
   refine ⟨_,(@Ae _ _ _ _ _ (@Au _ _ (4) _ _ _ _ Hv.nd rfl (by trivial) (Cl (dv 0) (Az c_Ledger_games (List.Mem.head _) er.l_Ledger (by decide) B3) hr) (by rfl) (by trivial)) (@Ae _ _ _ _ _ (@D8 _ _ _ _ _ _ _ _ (@L2.PW.pt _ _ _ (@Xr _ _ _ _ _ _ _ (@Bv _ _ _ _ _ _ _ _ (@O0 _ hr.units) (dv 4) (Cl (dv 1) (Az c_Ledger_games (List.Mem.head _) er.l_Ledger (by decide) B3) hr) (@A5 _ _ (by decide) (by decide))) (@Nn _ _ _ _ (@Bv _ _ _ _ _ _ _ _ (@O0 _ hr.units) (@Aw _ _ _ _ _ _ _ _ _ Xd (by rfl) n_sorted (by decide +kernel) (@Aa _ _ _ _ _ (dv 4) Ac (by rfl)) (by decide) (by decide) (by rfl) (by rfl)) (@Aw _ _ _ _ _ _ _ _ _ Xd (by rfl) n_sorted (by decide +kernel) (@Aa _ _ _ _ _ (dv 2) Ac (by rfl)) (by decide) (by decide) (by rfl) (by rfl)) (@A5 _ _ (by decide) (by decide)))))) (@Ag _ _ _ (@Aq _ _ _ _ Xh)) A8) (@Ae _ _ _ _ _ (@Au _ _ (5) _ _ _ _ Hv.nd rfl (by trivial) (@An _ _ _ _ _ _ _ _ _ _ _ c_running hr (by decide) (by rfl) (@Aa _ _ _ _ _ (dv 3) (@Aa _ _ _ _ _ (dv 2) Ac (by rfl)) (by rfl)) (by decide) (by rfl) (by rfl)) (by rfl) (by trivial)) (@Ag _ _ _ (@Aq _ _ _ _ (@Hg _ _ _ _ _ _ _ (@Du _ _ _ _ _ _ _ _ (@Kw _ hr.units) (Cl (dv 0) (Az c_Ledger_worths (List.Mem.head _) er.l_Ledger (by decide) B3) hr) (dv 5) (@A5 _ _ (by decide) (by decide))) (@Il _ _ _ _ _ (@Du _ _ _ _ _ _ _ _ (@Kw _ hr.units) (Cl (dv 1) (Az c_Ledger_worths (List.Mem.head _) er.l_Ledger (by decide) B3) hr) (dv 5) (@A5 _ _ (by decide) (by decide)))))))))),?_⟩
   have cls:∀{L A R:Addr} {H':Hp} {es':List En} {last':Int},Cf K H' L A R es' last'→∃dx fs,H' L=some (.ins c_Ledger dx fs)∧LFd fs A R last':=fun h=>by
    obtain ⟨C,dx,fs,eL,hC,fd,_⟩:=h
    have hCc:=Ao hC er.y_Ledger
    subst hCc
    exact ⟨dx,fs,eL,fd⟩
   have l1:es1.length≤20:=by
    have:=bg1.perm.length_eq
    rw [List.length_map] at this
    omega
   have l2:es2.length≤20:=by
    have:=bg2.perm.length_eq
    rw [List.length_map] at this
    omega
   obtain ⟨q0,hq0⟩:=U1 (dk gs) gs.length
   have pm0:=Vr hq0
   have sh0:∀{hs:List Gm},hs.Perm gs→SeqAt.shaped (.list (hs.map gd))=true:=fun hp=>Agn fun g hg=>by
    obtain ⟨h1,h2⟩:=gm g (hp.mem_iff.mp hg)
    exact ⟨sok _ h1,sok _ h2⟩
   obtain ⟨dx1,fs1,eL1,fd1⟩:=cls lg1
   refine ⟨M1,_,dx1,fs1,_,rfl,eL1,.head _,fd1.ga,A1,R1,es1,last1,⟨lg1,by omega,tk⟩,fun B bv H1 p1 sm1 nB eB tk1 stb1 aB=>?_⟩
   obtain ⟨kl1,kt1⟩:=Hc sm1 tk
   have lg1a:=lg1.smt sm1 tk
   have lg2a:=lg2.smt sm1 tk
   have sN1:=R3 sN sm1 nT
   rw [bg1 p1 q0 stb1 hq0] at aB
   obtain ⟨dx2,fs2,eL2,fd2⟩:=cls lg2a
   refine ⟨M2,_,dx2,fs2,_,rfl,eL2,.head _,fd2.ga,A2,R2,es2,last2,⟨lg2a,by omega,tk1⟩,fun B2 bv2 H2 p2 sm2 nB2 eB2 tk2 stb2 aB2=>?_⟩
   obtain ⟨kl2,kt2⟩:=Hc sm2 tk1
   have lg1b:=lg1a.smt sm2 tk1
   have lg2b:=lg2a.smt sm2 tk1
   have sN2:=R3 sN1 sm2 nT
   rw [bg2 p2 q0 stb2 hq0] at aB2
   have eBb:=kl2 _ _ eB
   have aBb:=aB.imp fun v g r=>B6 v g _ _ kt2 r
   refine ⟨_,_,Ro (Ay.of eBb) aBb,Ro (Ay.of eB2) aB2,sh0 pm0,sh0 pm0,?_⟩
   rw [Fz (sh0 pm0)]
   refine ⟨fun h=>nb h,fun _=>?_⟩
   have lpg:(pg gs q0).length≤20:=by rw [pm0.length_eq];exact l20
   refine ⟨_,_,Ay.of eBb,aBb,by omega,fun S1 ys1 hs1 nS1 ay1 pm1 pw1=>?_⟩
   have s3:Ah H2 (upd H2 S1 (.lst ys1)):=Am nS1
   have e3:upd H2 S1 (.lst ys1) S1=some (.lst ys1):=Ad
   generalize upd H2 S1 (.lst ys1)=H3 at s3 e3
   have kt03:=kt1.trans (kt2.trans (A7 s3))
   have eG3:=s3 _ _ (kl2 _ _ (kl1 _ _ hG))
   refine ⟨_,_,Ay.of eG3,al.imp fun v g r=>B6 v g _ _ kt03 r,by omega,fun S2 ys2 hs2 nS2 ay2 pm2 pw2=>?_⟩
   have s4:Ah H3 (upd H3 S2 (.lst ys2)):=Am nS2
   have e4:upd H3 S2 (.lst ys2) S2=some (.lst ys2):=Ad
   generalize upd H3 S2 (.lst ys2)=H4 at s4 e4
   have pm1':=pm1.trans pm0
   have eq12:=Yp pm1' pm2 pw1 pw2
   subst eq12
   refine ⟨_,_,Ro (Ay.of (s4 _ _ e3)) (ay1.imp fun v g r=>B6 v g _ _ ((A7 s3).trans (A7 s4)) r),Ro (Ay.of e4) (ay2.imp fun v g r=>B6 v g _ _ (A7 s4) r),sh0 pm2,sh0 pm2,?_⟩
   rw [Fz (sh0 pm2)]
   refine ⟨fun h=>nb h,fun _=>?_⟩
   have s24:=s3.trans s4
   have tk4:=tk2.up s24
   have lg1c:=lg1b.up s24
   have lg2c:=lg2b.up s24
   have sN4:=sN2.trans s24
   have eG4:=s4 _ _ eG3
   have al4:=al.imp fun v g r=>B6 v g _ _ (kt03.trans (A7 s4)) r
   obtain ⟨ps,tt,_⟩:=id tk4
   refine ⟨so,st,fi,one,two,rows,gs,vs,⟨L8 hRl nT sN4,tb,b,bf,Ay.of (Vd tt eG4 fun _=>nofun),al4.imp fun v g r=>B6 v g _ _ (Aa9 tt) r,by omega,gok,tk4⟩,fun U uv q H5 sm5 nU eU tk5 stq aU=>?_⟩
   obtain ⟨kl5,kt5⟩:=Hc sm5 tk4
   have lg1d:=lg1c.smt sm5 tk4
   have lg2d:=lg2c.smt sm5 tk4
   have sN5:=R3 sN4 sm5 nT
   have gk:∀{es:List En},BG es gs→GOk es:=fun h e he=>gok _ (h.perm.mem_iff.mp (List.mem_map.mpr ⟨e,he,rfl⟩))
   have nS:∀s∈(plr gs).map (fun x=>(x,wq fi (K2 so st fi one two rows (fun _=>none) (pg gs q) x))),PyData.strOk s.1=true:=fun s hs=>by
    obtain ⟨x,hx,rfl⟩:=List.mem_map.mp hs
    exact sok x (V5 gm hx)
   have shW:=Akw nS
   obtain ⟨dx3,fs3,eL3,fd3⟩:=cls lg1d
   refine ⟨M1,_,dx3,fs3,_,rfl,eL3,.head _,fd3.ws,A1,R1,es1,last1,so,st,fi,one,two,rows,⟨lg1d,L8 hR1 nT sN5,tb,b,bf,by omega,gk bg1,tk5⟩,fun W wv H6 p6 sm6 nW eW tk6 stb6 aW=>?_⟩
   obtain ⟨kl6,kt6⟩:=Hc sm6 tk5
   rw [bg1 p6 q stb6 stq,bg1.plr] at aW
   refine ⟨_,_,.lst (Ay.of eW) (Nf aW),.lst (Ay.of (kl6 _ _ eU)) (Nf (aU.imp fun v g r=>Abb v g _ _ kt6 r)),shW,shW,?_⟩
   rw [Fz shW]
   refine ⟨fun _=>?_,fun h=>nb h⟩
   have lg2e:=lg2d.smt sm6 tk5
   have sN6:=R3 sN5 sm6 nT
   obtain ⟨dx4,fs4,eL4,fd4⟩:=cls lg2e
   refine ⟨M2,_,dx4,fs4,_,rfl,eL4,.head _,fd4.ws,A2,R2,es2,last2,so,st,fi,one,two,rows,⟨lg2e,L8 hR2 nT sN6,tb,b,bf,by omega,gk bg2,tk6⟩,fun W2 wv2 H7 p7 sm7 nW2 eW2 tk7 stb7 aW2=>?_⟩
   obtain ⟨kl7,kt7⟩:=Hc sm7 tk6
   rw [bg2 p7 q stb7 stq,bg2.plr] at aW2
   refine ⟨_,_,.lst (Ay.of eW2) (Nf aW2),.lst (Ay.of (kl7 _ _ (kl6 _ _ eU))) (Nf (aU.imp fun v g r=>Abb v g _ _ (kt6.trans kt7) r)),shW,shW,?_⟩
   rw [Fz shW]
   exact k H7 (fun b o n e=>sm7 b o n (sm6 b o n (sm5 b o n (s24 b o (sm2 b o n (sm1 b o n e)))))) tk7
theorem Ah8 {K:PySem.W.Frag}{a:Addr}{xs:List V}{g:TG}{te:TE}{k:Nat}{js:List Nat}{σ:L2.St}{N H1:Hp}{Q:VK}(R:Nat→V→Prop)(J:Nat→Hp→Prop)(Js:∀i H H',Ah H H'→J i H→J i H')
  (Jp:∀i H D zs o,H D=some (.lst zs)→J i H→J i (upd H D o)) (hz:xs.length≤1000) (sN:Ah N H1) (hx:Ay K N a xs) (hJ:J 0 H1)
  (hs:∀i v H2,xs[i]? =some v→Ah N H2→J i H2→∀P:VK,(∀y H3,Ah N H3→(∀b zs,H2 b=some (.lst zs)→H3 b=some (.lst zs))→R i y→J (i+1) H3→P y H3)→g v (List.replicate k none++capσ js σ) H2 fun σ2 H3=>σ2.drop k=capσ js σ∧te σ2 H3 P)
  (hq:∀D H' ys,Ah N H'→N D=none→H1 D=none→H' D=some (.lst ys)→ys.length=xs.length→(∀i y,ys[i]? =some y→R i y)→J xs.length H'→Q (.ref D) H'):Ez (Itl K a) g te k js σ H1 Q:=by
 unfold Ez
 intro D hD
 have nD:N D=none:=Bl sN hD
 refine ⟨fun i m H=>m=xs.length-i∧i≤xs.length∧Ah N H∧J i H∧∃ys,H D=some (.lst ys)∧ys.length=i∧∀j y,ys[j]? =some y→R j y,⟨xs.length,by simp,Nat.zero_le _,sN.trans (Am hD),Js 0 _ _ (Am hD) hJ,[],Ad,rfl,fun j y h=>by simp at h⟩,?_⟩
 rintro i m H ⟨rfl,hi,sm,hJi,ys,hH,hl,ar⟩
 have sq:=sm.seq hx
 by_cases hlt:i<xs.length
 ·have e:xs[i]? =some xs[i]:=by simp [hlt]
  refine .inr ⟨⟨xs,_,sq,e⟩,fun x H' y=>?_⟩
  obtain ⟨e1,e2⟩:=y
  subst e1
  have hv:=e2 xs sq
  refine hs i x _ hv sm hJi _ fun y H3 s3 l3 r3 j3=>?_
  have eD3:=l3 _ _ hH
  refine ⟨ys,eD3,?_,xs.length-(i+1),by omega,rfl,hlt,Cb s3 nD,Jp _ _ _ _ _ eD3 j3,ys++[y],Ad,by rw [List.length_append,hl];rfl,fun j z hj=>?_⟩
  ·rw [hl]
   exact Nat.lt_of_lt_of_le hlt (Nat.le_trans hz (by decide))
  ·by_cases c:j<ys.length
   ·rw [List.getElem?_append_left c] at hj
    exact ar j z hj
   ·have ej:j=i:=by
     have:=(List.getElem?_eq_some_iff.mp hj).1
     rw [List.length_append,List.length_singleton] at this
     omega
    subst ej
    rw [List.getElem?_append_right (by omega),hl,Nat.sub_self] at hj
    cases hj
    exact r3
 ·have e:i=xs.length:=by omega
  subst e
  exact .inl ⟨⟨xs,sq,Nat.le_refl _⟩,hq D _ ys sm nD hD hH hl ar hJi⟩
structure Y4 (gs:List Gm)(ws:List (Nat×Int))(k:Nat):Prop where
 num:ws.Pairwise fun w w'=>w.2<w'.2
 day:ws.Pairwise fun w w'=>dk gs w.1=dk gs w'.1→w.1<w'.1
 nd:(ws.map (·.1)).Nodup
 mem:∀i,i∈ws.map (·.1)↔k≤i∧i<gs.length
theorem Y4.inc {gs:List Gm}{ws:List (Nat×Int)}{k:Nat}(h:Y4 gs ws k):Ji (wE gs ws):=by
 unfold wE
 exact List.pairwise_map.mpr h.num
theorem Y4.before {gs:List Gm}{ws:List (Nat×Int)}{k:Nat}(h:Y4 gs ws k){w w':Nat×Int}(hw:w∈ws)(hw':w'∈ws)(l:w.2<w'.2)(d:dk gs w.1=dk gs w'.1):w.1<w'.1:=by
 obtain ⟨a,ha,rfl⟩:=List.getElem_of_mem hw
 obtain ⟨b,hb,rfl⟩:=List.getElem_of_mem hw'
 have n:=List.pairwise_iff_getElem.mp h.num
 rcases Nat.lt_trichotomy a b with c|c|c
 ·exact List.pairwise_iff_getElem.mp h.day a b ha hb c d
 ·subst c
  exact absurd l (Int.lt_irrefl _)
 ·have:=n b a hb ha c
  omega
theorem W0 {gs:List Gm}{i:Nat}(h:i<gs.length):dk gs i=(gs.getD i gz).d:=by
 unfold dk
 rw [List.getD_eq_getElem?_getD,List.getElem?_eq_getElem h]
 rfl
def w0 (gs:List Gm)(k:Nat):List (Nat×Int):=(List.range' k (gs.length-k)).map fun i=>(i,(i:Int))
theorem Z5 {gs:List Gm}{k:Nat}:(wE gs (w0 gs k)).map (·.2)=gs.drop k:=by
 unfold wE w0
 rw [List.map_map,List.map_map]
 refine List.ext_getElem (by simp) fun i h1 h2=>?_
 simp only [List.getElem_map,List.getElem_range',List.getElem_drop,Function.comp_apply,Nat.one_mul]
 rw [List.length_drop] at h2
 rw [List.getD_eq_getElem?_getD,List.getElem?_eq_getElem (by omega)]
 rfl
theorem Ag2 {gs:List Gm}{k:Nat}:Ji (wE gs (w0 gs k)):=by
 unfold wE w0
 rw [List.map_map]
 refine List.pairwise_map.mpr ((List.pairwise_lt_range' (s:=k) (n:=gs.length-k)).imp fun {a b} h=>?_)
 show (a:Int)<(b:Int)
 omega
theorem Vx {gs:List Gm}{ws:List (Nat×Int)}{k:Nat}(h:Y4 gs ws k):BG (wE gs ws) (gs.drop k):=by
 intro p q hp hq
 rw [Aff hp]
 have hq':Fx (dk ((wE gs (w0 gs k)).map (·.2))) ((wE gs (w0 gs k)).map (·.2)).length q:=by
  rw [Z5]
  exact hq
 rw [←Z5,Aff hq']
 rw [List.length_map] at hp hq'
 have lw:(wE gs ws).length=ws.length:=List.length_map _
 obtain ⟨vs,hvs⟩:∃vs:List (Nat×Int),vs=p.map fun i=>ws.getD i (0,0):=⟨_,rfl⟩
 have lp:∀i∈p,i<ws.length:=fun i hi=>by
  rw [←lw]
  exact hp.2.1 i hi
 have ev:pe (wE gs ws) p=vs.map fun w=>(w.2,gs.getD w.1 gz):=by
  unfold pe
  rw [hvs,List.map_map]
  refine List.map_congr_left fun i hi=>?_
  have hi:=lp i hi
  show (wE gs ws).getD i d0=_
  unfold wE
  rw [List.getD_eq_getElem?_getD,List.getElem?_map,List.getElem?_eq_getElem hi]
  show _=((ws.getD i (0,0)).2,gs.getD (ws.getD i (0,0)).1 gz)
  rw [List.getD_eq_getElem?_getD,List.getElem?_eq_getElem hi]
  rfl
 have mv:∀w,w∈vs↔w∈ws:=fun w=>by
  rw [hvs,List.mem_map]
  constructor
  ·rintro ⟨i,hi,rfl⟩
   rw [List.getD_eq_getElem?_getD,List.getElem?_eq_getElem (lp i hi)]
   exact List.getElem_mem _
  ·intro hw
   obtain ⟨i,hi,rfl⟩:=List.getElem_of_mem hw
   refine ⟨i,((Fu hp).mem_iff).mpr (List.mem_range.mpr (by rw [lw];exact hi)),?_⟩
   rw [List.getD_eq_getElem?_getD,List.getElem?_eq_getElem hi]
   rfl
 have lim:∀w∈ws,k≤w.1∧w.1<gs.length:=fun w hw=>(h.mem w.1).mp (List.mem_map.mpr ⟨w,hw,rfl⟩)
 have pl:=Aex h.inc hp
 rw [ev] at pl ⊢
 have p0:(vs.map fun w=>(((w.1:Nat):Int),gs.getD w.1 gz)).Pairwise lx:=by
  refine List.pairwise_map.mpr ((List.pairwise_map.mp pl).imp_of_mem fun {w w'} hw hw' z=>?_)
  have hw:=(mv w).mp hw
  have hw':=(mv w').mp hw'
  rcases z with z|⟨z,l⟩
  ·exact .inl z
  ·refine .inr ⟨z,?_⟩
   have z:(gs.getD w.1 gz).d=(gs.getD w'.1 gz).d:=z
   have:=h.before hw hw' l (by rw [W0 (lim w hw).2,W0 (lim w' hw').2];exact z)
   show (w.1:Int)<(w'.1:Int)
   omega
 have e:(vs.map fun w=>(((w.1:Nat):Int),gs.getD w.1 gz))=pe (wE gs (w0 gs k)) q:=by
  refine Aig p0 (Aex Ag2 hq') fun e=>?_
  rw [Ag3 hq',List.mem_map]
  unfold wE w0
  rw [List.map_map,List.mem_map]
  constructor
  ·rintro ⟨w,hw,rfl⟩
   have:=lim w ((mv w).mp hw)
   exact ⟨w.1,List.mem_range'_1.mpr (by omega),rfl⟩
  ·rintro ⟨i,hi,rfl⟩
   have hi:=List.mem_range'_1.mp hi
   obtain ⟨w,hw,rfl⟩:=List.mem_map.mp ((h.mem i).mpr (by omega))
   exact ⟨w,(mv w).mpr hw,rfl⟩
 rw [←e,List.map_map,List.map_map]
 rfl
theorem Te {gs:List Gm}{ws:List (Nat×Int)}{k:Nat}{z:Int}(h:Y4 gs ws k)(hz:(k,z)∈ws):wo (wE gs ws) z=wE gs (ws.filter fun w=>decide (w.1≠k))∧Y4 gs (ws.filter fun w=>decide (w.1≠k)) (k+1):=by
 have un:∀w∈ws,w.2=z↔w.1=k:=fun w hw=>by
  obtain ⟨a,ha,ea⟩:=List.getElem_of_mem hw
  obtain ⟨b,hb,eb⟩:=List.getElem_of_mem hz
  constructor
  ·intro e
   have n:=List.pairwise_iff_getElem.mp h.num
   rcases Nat.lt_trichotomy a b with c|c|c
   ·have:=n a b ha hb c
    rw [ea,eb,e] at this
    exact absurd this (Int.lt_irrefl _)
   ·subst c
    rw [←ea,eb]
   ·have:=n b a hb ha c
    rw [ea,eb,e] at this
    exact absurd this (Int.lt_irrefl _)
  ·intro e
   have:=(List.getElem_inj (xs:=ws.map fun w=>w.1) (h₀:=by rw [List.length_map];exact ha) (h₁:=by rw [List.length_map];exact hb) h.nd).mp (by rw [List.getElem_map,List.getElem_map,ea,eb,e])
   subst this
   rw [←ea,eb]
 refine ⟨?_,List.Pairwise.filter _ h.num,List.Pairwise.filter _ h.day,(List.filter_sublist.map _).nodup h.nd,fun i=>?_⟩
 ·unfold wo wE
  rw [List.filter_map]
  congr 1
  refine List.filter_congr fun w hw=>?_
  show decide (w.2≠z)=decide (w.1≠k)
  exact decide_eq_decide.mpr (not_congr (un w hw))
 ·have m:=h.mem i
  rw [List.mem_map] at m ⊢
  constructor
  ·rintro ⟨w,hw,rfl⟩
   obtain ⟨h1,h2⟩:=List.mem_filter.mp hw
   have:=m.mp ⟨w,h1,rfl⟩
   have h2:w.1≠k:=of_decide_eq_true h2
   omega
  ·intro hi
   obtain ⟨w,hw,e⟩:=m.mpr ⟨by omega,hi.2⟩
   exact ⟨w,List.mem_filter.mpr ⟨hw,decide_eq_true (show w.1≠k by omega)⟩,e⟩
def w1 (n:Nat):List (Nat×Int):=(List.range n).map fun i=>(i,(i:Int)+1)
theorem Ac9 {gs:List Gm}{i:Nat}{g:Gm}(h:gs[i]? =some g):wE gs (w1 (i+1))=wE gs (w1 i)++[((i:Int)+1,g)]:=by
 unfold wE w1
 rw [List.range_succ,List.map_append,List.map_append]
 show _++[((i:Int)+1,gs.getD i gz)]=_
 rw [List.getD_eq_getElem?_getD,h]
 rfl
theorem Ai5 (gs:List Gm):Y4 gs (w1 gs.length) 0:=by
 have em:(w1 gs.length).map (·.1)=List.range gs.length:=by
  unfold w1
  rw [List.map_map]
  exact List.map_id _
 refine ⟨?_,?_,?_,fun i=>?_⟩
 ·unfold w1
  refine List.pairwise_map.mpr (List.pairwise_lt_range.imp fun {a b} h=>?_)
  show (a:Int)+1<(b:Int)+1
  omega
 ·unfold w1
  exact List.pairwise_map.mpr (List.pairwise_lt_range.imp fun {a b} h=>fun _=>h)
 ·rw [em]
  exact List.nodup_range
 ·rw [em,List.mem_range]
  omega
theorem Aks {gs:List Gm}{ws:List (Nat×Int)}(inc:Ji (wE gs ws))(pm:(ws.map (·.1)).Perm (List.range gs.length))(pw:(ws.map (·.1)).Pairwise fun i j=>dk gs i=dk gs j→i<j):Y4 gs ws 0:=by
 refine ⟨?_,List.pairwise_map.mp pw,pm.nodup_iff.mpr List.nodup_range,fun i=>?_⟩
 ·unfold Ji wE at inc
  exact (List.pairwise_map (R:=fun a b:En=>a.1<b.1)).mp inc
 ·rw [pm.mem_iff,List.mem_range]
  omega
theorem V7 {gs:List Gm}{ws:List (Nat×Int)}(h:Y4 gs ws gs.length):ws=[]:=by
 cases ws with
 |nil=>rfl
 |cons w ws=>
  have:=(h.mem w.1).mp List.mem_cons_self
  omega
theorem Cf.fr3 {K:PySem.W.Frag}{L A R L' A' R' T:Addr}{H H':Hp}{es es':List En}{last last':Int}{pos:Pos}{q:Str}(h:Cf K H L A R es last)(h':Cf K H L' A' R' es' last')(tk:A3 H T pos q)(f:Pm L' A' T H H')(n1:L≠L')(n2:A≠A'):Cf K H' L A R es last:=by
 obtain ⟨kl,kt⟩:=Ef f h' tk
 obtain ⟨C,dx,fs,eL,hC,fd,kvs,eA,al⟩:=h
 obtain ⟨C',dx',fs',eL',_,_,kvs',eA',_⟩:=h'
 obtain ⟨ps,tt,_⟩:=tk
 exact ⟨C,dx,fs,f _ _ n1 (fun z=>by rw [z,eA'] at eL;cases eL) (fun z=>by rw [z,tt] at eL;cases eL) eL,hC,fd,kvs,f _ _ (fun z=>by rw [z,eL'] at eA;cases eA) n2 (fun z=>by rw [z,tt] at eA;cases eA) eA,al.imp fun kv e r=>Fi kv e _ _ kt r⟩
theorem Aey {gs:List Gm}{nm:List Str}{i:Nat}(gm:∀g∈gs,g.a∈nm∧g.b∈nm)(h:i≤gs.length):Ja nm (wE gs (w1 i)) (i:Int):=by
 refine ⟨?_,fun e he=>?_,fun e he=>?_⟩
 ·unfold wE w1
  rw [List.map_map]
  refine List.pairwise_map.mpr (List.pairwise_lt_range.imp fun {a b} h=>?_)
  show (a:Int)+1<(b:Int)+1
  omega
 ·unfold wE w1 at he
  rw [List.map_map] at he
  obtain ⟨j,hj,rfl⟩:=List.mem_map.mp he
  have:=List.mem_range.mp hj
  show (j:Int)+1≤i
  omega
 ·unfold wE w1 at he
  rw [List.map_map] at he
  obtain ⟨j,hj,rfl⟩:=List.mem_map.mp he
  have:=List.mem_range.mp hj
  show (gs.getD j gz).a∈nm∧(gs.getD j gz).b∈nm
  rw [List.getD_eq_getElem?_getD,List.getElem?_eq_getElem (show j<gs.length by omega)]
  exact gm _ (List.getElem_mem _)
def Nr (Xs:List Addr)(H:Hp):Hp:=fun b=>if b∈Xs then none else H b
theorem Ck {Xs:List Addr}{H:Hp}{b:Addr}{o:HO}(n:b∉Xs)(e:H b=some o):Nr Xs H b=some o:=by
 unfold Nr
 rw [if_neg n]
 exact e
theorem Bu {Xs:List Addr}{H:Hp}{b:Addr}(n:b∈Xs):Nr Xs H b=none:=by
 unfold Nr
 rw [if_pos n]
theorem J5 {Xs:List Addr}{H:Hp}:Ah (Nr Xs H) H:=fun b o e=>by
 unfold Nr at e
 by_cases c:b∈Xs
 ·rw [if_pos c] at e
  cases e
 ·rw [if_neg c] at e
  exact e
theorem Ll {K:PySem.W.Frag}{Xs:List Addr}{R:Addr}{H:Hp}{so st fi one two:Int}{rows:List Rw}(h:Ir K H R so st fi one two rows)(ne:1≤rows.length)(n:R∉Xs)(hx:∀X∈Xs,(∀zs,H X=some (.lst zs)→∃l:List Int,zs=l.map V.int)∧∀zs,H X≠some (.tup zs)):Ir K (Nr Xs H) R so st fi one two rows:=by
 obtain ⟨C,dx,fs,T,e,kn,f,vs,t1,t2⟩:=h
 refine ⟨C,dx,fs,T,Ck n e,kn,f,vs,Ck (fun z=>?_) t1,t2.imp fun v g r=>Cm v g _ _ (fun p xs e=>Ck (fun z=>(hx _ z).2 _ e) e) r⟩
 obtain ⟨l,rfl⟩:=(hx _ z).1 _ t1
 cases l with
 |nil=>
  cases t2
  exact absurd ne (by decide)
 | cons x l=>
  cases t2 with
  |cons a b=>
   obtain ⟨t,u,e,_⟩:=a
   cases e
theorem Abm {K:PySem.W.Frag}{Xs:List Addr}{a:Addr}{H:Hp}{xs:List V}(h:Ay K H a xs)(n:∀X∈Xs,(∀zs,H X≠some (.lst zs))∧∀ob zs,H X≠some (.frz ob (.lst zs))):Ay K (Nr Xs H) a xs:=by
 rcases h with h|h
 ·refine .inl ?_
  rcases h with h|⟨ob,h⟩
  ·exact .inl (Ck (fun z=>(n _ z).1 xs h) h)
  ·exact .inr ⟨ob,Ck (fun z=>(n _ z).2 ob xs h) h⟩
 ·exact .inr h
def fl (k n:Nat):List V:=(List.range' k (n-k)).map fun i:Nat=>V.int ((i:Int)+1)
theorem Ajs {ys:List V}{n:Nat}(l:ys.length=n)(r:∀(i:Nat) y,ys[i]? =some y→y=.int ((i:Int)+1)):ys=fl 0 n:=by
 refine List.ext_getElem (by unfold fl;simp [l]) fun i h1 h2=>?_
 rw [r i _ (List.getElem?_eq_getElem h1)]
 unfold fl
 simp
theorem Ac7 {k n:Nat}(h:k<n):fl k n=V.int ((k:Int)+1)::fl (k+1) n:=by
 unfold fl
 rw [show n-k=(n-(k+1))+1 by omega,List.range'_succ]
 rfl
theorem Aco (k n:Nat):∃l:List Int,fl k n=l.map V.int:=⟨(List.range' k (n-k)).map fun i:Nat=>(i:Int)+1,by unfold fl;rw [List.map_map];rfl⟩
structure Two (K:PySem.W.Frag)(M H':Hp)(L A R L2 A2 R2 F:Addr)(nm:List Str)(gs:List Gm)(wsF ws1 ws2:List (Nat×Int))(last1 last2:Int)(k:Nat):Prop where
 sm:Ah M H'
 tk:A3 H' (Bx K) Ce Gj
 g1:Cf K H' L A R (wE gs ws1) last1
 o1:Ja nm (wE gs ws1) last1
 w1:Y4 gs ws1 k
 n1:∀w∈ws1,w.2=(w.1:Int)+1
 g2:Cf K H' L2 A2 R2 (wE gs ws2) last2
 o2:Ja nm (wE gs ws2) last2
 w2:Y4 gs ws2 k
 n2:∀w∈ws2,w∈wsF
 fi:H' F=some (.lst (fl k gs.length))
 l1:ws1.length≤20
 l2:ws2.length≤20
theorem Two.up {K:PySem.W.Frag}{M H' H2:Hp}{L A R L2 A2 R2 F:Addr}{nm:List Str}{gs:List Gm}{wsF ws1 ws2:List (Nat×Int)}{last1 last2:Int}{k:Nat}(h:Two K M H' L A R L2 A2 R2 F nm gs wsF ws1 ws2 last1 last2 k)(s:Xt (Bx K) H' H2)(tk:A3 H2 (Bx K) Ce Gj)(mT:M (Bx K)=none):Two K M H2 L A R L2 A2 R2 F nm gs wsF ws1 ws2 last1 last2 k:=⟨R3 h.sm s mT,tk,h.g1.smt s h.tk,h.o1,h.w1,h.n1,h.g2.smt s h.tk,h.o2,h.w2,h.n2,(Hc s h.tk).1 _ _ h.fi,h.l1,h.l2⟩
theorem Aay {gs:List Gm}{ws:List (Nat×Int)}:(wE gs ws).length=ws.length:=List.length_map _
theorem Aew {nm:List Str}{es:List En}{last z:Int}(h:Ja nm es last):Ja nm (wo es z) last:=⟨h.inc.sublist List.filter_sublist,fun e he=>h.le e (List.mem_filter.mp he).1,fun e he=>h.mem e (List.mem_filter.mp he).1⟩
theorem Dh:Al ["_law_script","_law_names_here","_law_days","_law_games","_law_k","_law_numbers","_law_drawn","_law_rule_here","_law_one","_law_first","_law_other","_law_second"] ["_law_script"] (Af Hm):=⟨rfl,rfl,rfl,by decide +kernel,rfl,by decide +kernel,by decide +kernel⟩
theorem Af1 (d:B8 K mg "law" Hm ["_law_script"])(er:Bg K mg c_Capped c_Early c_Ledger c_NoTable c_Rested c_Rule)(n_range:mg "range"=none)(n_len:mg "len"=none)  (c_Ledger_worths:Be P w K mg base [c_Ledger] [] "worths" ["self"] 11 (Dj K ns))(c_Ledger_games:Be P w K mg base [c_Ledger] [] "games" ["self"] 4 (Co K ns))(c_l_alike:Bm P w K mg base "_law_alike" ["_law_one","_law_other","_law_games","_law_rule_here"] 12 (Mv K ns))(c_Ledger_take:Be P w K mg base [c_Ledger] [] "take" ["self","number"] 6 (Ep K ns))(c_l_fed:Bm P w K mg base "_law_fed" ["_law_ledger","_law_script","_law_games","_law_names_here","_law_days"] 7 (Sl K ns))(c_Ledger___init__:Be P w K mg base [c_Ledger] [] "__init__" ["self","rule"] 10 (Ej K ns))(c_Ledger_put:Be P w K mg base [c_Ledger] [] "put" ["self","played"] 6 (Fa K ns))(c_l_rule:Bm P w K mg base "_law_rule" ["_law_drawn","_law_rows_here"] 9 (Oo K ns))(c_l_rows:Bm P w K mg base "_law_rows" ["_law_script"] 2 (Oq K ns))(c_l_cell:Bm P w K mg base "_law_cell" ["_law_script","_law_k"] 1 (Fk K ns))(c_l_number:Bm P w K mg base "_law_number" ["_law_cell_here"] 1 (Kx K ns))(c_l_game:Bm P w K mg base "_law_game" ["_law_cell_here","_law_names_here","_law_days"] 1 (J3 K ns))(c_l_names:Bm P w K mg base "_law_names" ["_law_cell_here","_law_many"] 1 (L4 K ns)):Bm P w K mg base "law" ["_law_script"] 13 (Sz "in_order" K ns):=by
 refine d.cal (k:=12) Dh (fun vs H Q E h=>?_) (fun f cdv A outer s H vs Q E hr h=>?_)
 ·match vs,h with
  |[.ref a],_=>rfl
 ·match vs,h with
  | [.ref a],hq0=>
   obtain ⟨hS,hl,hb,hT,k⟩:=hq0
   refine ⟨_,(@Ae _ _ _ _ _ (@Au _ _ (1) _ _ _ _ Dh.nd rfl (by trivial) (@An _ _ _ _ _ _ _ _ _ _ _ c_l_names hr (by decide) (by rfl) (@Aa _ _ _ _ _ (@An _ _ _ _ _ _ _ _ _ _ _ c_l_cell hr (by decide) (by rfl) (@Aa _ _ _ _ _ (dv 0) (@Aa _ _ _ _ _ Ab Ac (by rfl)) (by rfl)) (by decide) (by rfl) (by rfl)) (@Aa _ _ _ _ _ (@Aj _ _ _ _ _ _ _ _ Cg Ab (@Aj _ _ _ _ _ _ _ _ Bn (@An _ _ _ _ _ _ _ _ _ _ _ c_l_cell hr (by decide) (by rfl) (@Aa _ _ _ _ _ (dv 0) (@Aa _ _ _ _ _ Ab Ac (by rfl)) (by rfl)) (by decide) (by rfl) (by rfl)) Ab)) Ac (by rfl)) (by rfl)) (by decide) (by rfl) (by rfl)) (by rfl) (by trivial)) (@Eu _ _ _ _ _ (@Au _ _ (2) _ _ _ _ Dh.nd rfl (by trivial) (@Ap _ _ _ _ _ _ _ Dd (@Iw _ _ _ _ (@Aa _ _ _ _ _ Ab (@Aa _ _ _ _ _ Ab (@Aa _ _ _ _ _ Ab (@Aa _ _ _ _ _ Ab Ac (by rfl)) (by rfl)) (by rfl)) (by rfl))) (@Aj _ _ _ _ _ _ _ _ Bn (@Aj _ _ _ _ _ _ _ _ Ew (@An _ _ _ _ _ _ _ _ _ _ _ c_l_cell hr (by decide) (by rfl) (@Aa _ _ _ _ _ (dv 0) (@Aa _ _ _ _ _ Ab Ac (by rfl)) (by rfl)) (by decide) (by rfl) (by rfl)) Ab) Ab) (fun _ _=>rfl)) (by rfl) (by trivial)) (@Ae _ _ _ _ _ (@Au _ _ (3) _ _ _ _ Dh.nd rfl (by trivial) (@Do _ _ _ _ Ac) (by rfl) (by trivial)) (@Ae _ _ _ _ _ (@G7 _ _ _ _ _ _ _ _ PassesOwn.never rfl (@Di _ _ _ _ _ _ (by rfl) n_range (@Aa _ _ _ _ _ (@Aj _ _ _ _ _ _ _ _ Bn (@An _ _ _ _ _ _ _ _ _ _ _ c_l_cell hr (by decide) (by rfl) (@Aa _ _ _ _ _ (dv 0) (@Aa _ _ _ _ _ Ab Ac (by rfl)) (by rfl)) (by decide) (by rfl) (by rfl)) Ab) Ac (by rfl)) (by rfl)) (@A6 _ _ (4) _ Dh.nd rfl (by trivial) (by trivial)) (@Ag _ _ _ (@Bs _ _ _ _ (@G4 _ _ _ _ _ _ _ _ _ _ _ _ PySem.F.plainAttrs_list PySem.F.slot_list_append PySem.F.type_list_append Dm (dv 3) (@Aa _ _ _ _ _ (@An _ _ _ _ _ _ _ _ _ _ _ c_l_game hr (by decide) (by rfl) (@Aa _ _ _ _ _ (@Aj _ _ _ _ _ _ _ _ Bn (@An _ _ _ _ _ _ _ _ _ _ _ c_l_cell hr (by decide) (by rfl) (@Aa _ _ _ _ _ (dv 0) (@Aa _ _ _ _ _ (@Aj _ _ _ _ _ _ _ _ Cg Ab (dv 4)) Ac (by rfl)) (by rfl)) (by decide) (by rfl) (by rfl)) (@Aj _ _ _ _ _ _ _ _ Xe Ab Ab)) (@Aa _ _ _ _ _ (dv 1) (@Aa _ _ _ _ _ (dv 2) Ac (by rfl)) (by rfl)) (by rfl)) (by decide) (by rfl) (by rfl)) Ac (by rfl)) (by rfl) (by rfl) (by rfl) (by rfl) (by rfl)) (by rfl))) (by intro _;rfl)) (@Ae _ _ _ _ _ (@Mw _ _ _ _ _ _ _ _ (5) _ _ _ _ _ ["_law_j"] ["_law_script"] [0] rfl (@Di _ _ _ _ _ _ (by rfl) n_range (@Aa _ _ _ _ _ Ab Ac (by rfl)) (by rfl)) (fun C s H fp=>(@A6 _ _ (0) _ (show List.Nodup [("_law_j":Str),("_law_script":Str)] by decide +kernel) rfl (by trivial) (by trivial))) (fun C s H fp=>(@An _ _ _ _ _ _ _ _ _ _ _ c_l_number hr (by decide) (by rfl) (@Aa _ _ _ _ _ (@An _ _ _ _ _ _ _ _ _ _ _ c_l_cell hr (by decide) (by rfl) (@Aa _ _ _ _ _ (dv 1) (@Aa _ _ _ _ _ (@Aj _ _ _ _ _ _ _ _ Cg Ab (dv 0)) Ac (by rfl)) (by rfl)) (by decide) (by rfl) (by rfl)) Ac (by rfl)) (by decide) (by rfl) (by rfl))) rfl rfl (by decide +kernel) (by decide +kernel) (by rfl) ⟨rfl,True.intro⟩ ⟨⟨rfl,rfl,rfl,rfl⟩,True.intro⟩ Dh.nd rfl rfl (by intro _;rfl) (by rfl)) (@Ae _ _ _ _ _ (@Au _ _ (6) _ _ _ _ Dh.nd rfl (by trivial) (@Ca _ _ _ _ _ (@Aa _ _ _ _ _ (@Aj _ _ _ _ _ _ _ _ Bn (@An _ _ _ _ _ _ _ _ _ _ _ c_l_cell hr (by decide) (by rfl) (@Aa _ _ _ _ _ (dv 0) (@Aa _ _ _ _ _ Ab Ac (by rfl)) (by rfl)) (by decide) (by rfl) (by rfl)) Ab) (@Aa _ _ _ _ _ (@Ap _ _ _ _ _ _ _ Dd (dv 5) Ab (fun _ _=>rfl)) (@Aa _ _ _ _ _ (@Ap _ _ _ _ _ _ _ Dd (dv 5) Ab (fun _ _=>rfl)) (@Aa _ _ _ _ _ (@Ap _ _ _ _ _ _ _ Dd (dv 5) Ab (fun _ _=>rfl)) (@Aa _ _ _ _ _ (@Ap _ _ _ _ _ _ _ Dd (dv 5) Ab (fun _ _=>rfl)) Ac (by rfl)) (by rfl)) (by rfl)) (by rfl)) (by rfl))) (by rfl) (by trivial)) (@Ae _ _ _ _ _ (@Au _ _ (7) _ _ _ _ Dh.nd rfl (by trivial) (@An _ _ _ _ _ _ _ _ _ _ _ c_l_rule hr (by decide) (by rfl) (@Aa _ _ _ _ _ (dv 6) (@Aa _ _ _ _ _ (@An _ _ _ _ _ _ _ _ _ _ _ c_l_rows hr (by decide) (by rfl) (@Aa _ _ _ _ _ (dv 0) Ac (by rfl)) (by decide) (by rfl) (by rfl)) Ac (by rfl)) (by rfl)) (by decide) (by rfl) (by rfl)) (by rfl) (by trivial)) (@Ae _ _ _ _ _ (@Au _ _ (8) _ _ _ _ Dh.nd rfl (by trivial) (Fg c_Ledger___init__ (List.Mem.head _) er.m_Ledger hr (by decide) (by rfl) er.b_Ledger (@Aa _ _ _ _ _ (dv 7) Ac (by rfl))) (by rfl) (by trivial)) (@Ae _ _ _ _ _ (@Mw _ _ _ _ _ _ _ _ (9) _ _ _ _ _ ["_law_played"] ["_law_one"] [8] rfl (@Dq _ _ _ _ (dv 3)) (fun C s H fp=>(@A6 _ _ (0) _ (show List.Nodup [("_law_played":Str),("_law_one":Str)] by decide +kernel) rfl (by trivial) (by trivial))) (fun C s H fp=>(@Ap _ _ _ _ _ _ _ Av (Dr (dv 1) (Az c_Ledger_put (List.Mem.head _) er.l_Ledger (by decide) B3) hr (@Aa _ _ _ _ _ (dv 0) Ac (by rfl))) Ab (fun _ _=>rfl))) rfl rfl (by decide +kernel) (by decide +kernel) (by rfl) ⟨rfl,True.intro⟩ ⟨⟨rfl,rfl,rfl,rfl⟩,True.intro⟩ Dh.nd rfl rfl (by intro _;rfl) (by rfl)) (@Ae _ _ _ _ _ (@Au _ _ (10) _ _ _ _ Dh.nd rfl (by trivial) (Fg c_Ledger___init__ (List.Mem.head _) er.m_Ledger hr (by decide) (by rfl) er.b_Ledger (@Aa _ _ _ _ _ (dv 7) Ac (by rfl))) (by rfl) (by trivial)) (@Ae _ _ _ _ _ (@Au _ _ (11) _ _ _ _ Dh.nd rfl (by trivial) (@An _ _ _ _ _ _ _ _ _ _ _ c_l_fed hr (by decide) (by rfl) (@Aa _ _ _ _ _ (dv 10) (@Aa _ _ _ _ _ (dv 0) (@Aa _ _ _ _ _ (dv 3) (@Aa _ _ _ _ _ (dv 1) (@Aa _ _ _ _ _ (dv 2) Ac (by rfl)) (by rfl)) (by rfl)) (by rfl)) (by rfl)) (by decide) (by rfl) (by rfl)) (by rfl) (by trivial)) (@Ae _ _ _ _ _ (@D8 _ _ _ _ _ _ _ _ (@D7 _ _ _ _ (@Ft _ _ _ (@An _ _ _ _ _ _ _ _ _ _ _ c_l_alike hr (by decide) (by rfl) (@Aa _ _ _ _ _ (dv 8) (@Aa _ _ _ _ _ (dv 10) (@Aa _ _ _ _ _ (dv 3) (@Aa _ _ _ _ _ (dv 7) Ac (by rfl)) (by rfl)) (by rfl)) (by rfl)) (by decide) (by rfl) (by rfl)) (by intro _;rfl))) (@Ag _ _ _ (@Aq _ _ _ _ Xh)) A8) (@Ae _ _ _ _ _ (@G7 _ _ _ _ _ _ _ _ PassesOwn.never rfl (@Di _ _ _ _ _ _ (by rfl) n_range (@Aa _ _ _ _ _ (@Aw _ _ _ _ _ _ _ _ _ Df (by rfl) n_len (by decide +kernel) (@Aa _ _ _ _ _ (dv 3) Ac (by rfl)) (by decide) (by decide) (by rfl) (by rfl)) Ac (by rfl)) (by rfl)) (@A6 _ _ (4) _ Dh.nd rfl (by trivial) (by trivial)) (@Ae _ _ _ _ _ (@Bs _ _ _ _ (Dr (dv 8) (Az c_Ledger_take (List.Mem.head _) er.l_Ledger (by decide) B3) hr (@Aa _ _ _ _ _ (@G4 _ _ _ _ _ _ _ _ _ _ _ _ PySem.F.plainAttrs_list PySem.F.slot_list_pop PySem.F.type_list_pop Lh (dv 9) (@Aa _ _ _ _ _ Ab Ac (by rfl)) (by rfl) (by rfl) (by rfl) (by rfl) (by rfl)) Ac (by rfl))) (by rfl)) (@Ae _ _ _ _ _ (@Bs _ _ _ _ (Dr (dv 10) (Az c_Ledger_take (List.Mem.head _) er.l_Ledger (by decide) B3) hr (@Aa _ _ _ _ _ (@Ha _ _ _ _ _ _ (@u1 _ _ hr.units) (dv 11) (dv 4) (fun _ _=>rfl)) Ac (by rfl))) (by rfl)) (@Ag _ _ _ (@D8 _ _ _ _ _ _ _ _ (@L2.PW.pt _ _ _ (@Aaz _ _ _ _ _ _ _ (@Bv _ _ _ _ _ _ _ _ N5 (@Aj _ _ _ _ _ _ _ _ Bn (dv 4) Ab) Ab (@A5 _ _ (by decide) (by decide))) (@Qs _ _ _ _ (@D7 _ _ _ _ (@Ft _ _ _ (@An _ _ _ _ _ _ _ _ _ _ _ c_l_alike hr (by decide) (by rfl) (@Aa _ _ _ _ _ (dv 8) (@Aa _ _ _ _ _ (dv 10) (@Aa _ _ _ _ _ (@C2 _ _ _ _ _ _ _ _ _ _ Us (dv 3) (Cj (Aj Cg (dv 4) Ab)) Jg) (@Aa _ _ _ _ _ (dv 7) Ac (by rfl)) (by rfl)) (by rfl)) (by rfl)) (by decide) (by rfl) (by rfl)) (by intro _;rfl)))))) (@Ag _ _ _ (@Aq _ _ _ _ Xh)) A8)))) (by intro _;rfl)) (@Ag _ _ _ (@Aq _ _ _ _ (@Hg _ _ _ _ _ _ _ (@Du _ _ _ _ _ _ _ _ (@Kw _ hr.units) (Cl (dv 8) (Az c_Ledger_games (List.Mem.head _) er.l_Ledger (by decide) B3) hr) (@Do _ _ _ _ Ac) (@A5 _ _ (by decide) (by decide))) (@Hg _ _ _ _ _ _ _ (@Du _ _ _ _ _ _ _ _ (@Kw _ hr.units) (Cl (dv 10) (Az c_Ledger_games (List.Mem.head _) er.l_Ledger (by decide) B3) hr) (@Do _ _ _ _ Ac) (@A5 _ _ (by decide) (by decide))) (@Hg _ _ _ _ _ _ _ (@Du _ _ _ _ _ _ _ _ (@Kw _ hr.units) (Cl (dv 8) (Az c_Ledger_worths (List.Mem.head _) er.l_Ledger (by decide) B3) hr) (@Do _ _ _ _ Ac) (@A5 _ _ (by decide) (by decide))) (@Il _ _ _ _ _ (@Du _ _ _ _ _ _ _ _ (@Kw _ hr.units) (Cl (dv 10) (Az c_Ledger_worths (List.Mem.head _) er.l_Ledger (by decide) B3) hr) (@Do _ _ _ _ Ac) (@A5 _ _ (by decide) (by decide)))))))))))))))))))))),?_⟩
   have tk0:A3 H (Bx K) Ce Gj:=⟨#[],hT,trivial,.inl rfl⟩
   refine ⟨hS,⟨by decide,by decide,hb⟩,fun c1=>⟨hS,⟨by decide,by decide,hb⟩,fun c2=>⟨(by show (0:Int)<7;decide),?_⟩⟩⟩
   have y0:=Int.emod_nonneg c2 (show (7:Int)≠0 by decide)
   have y1:=Int.emod_lt_of_pos c2 (show (0:Int)<7 by decide)
   refine ⟨⟨by show 0≤2+c2 % 7;omega,by show 2+c2 % 7≤8;omega⟩,fun NL nm H1 s1 e1 l1 nd sok=>?_⟩
   have l1:(nm.length:Int)=2+c2 % 7:=l1
   refine ⟨fun σ H'=>∃ds:Int,σ=[some (.ref a),some (.ref NL),some (.int ds),none,none,none,none,none,none,none,none,none]∧Ah H1 H'∧1≤ds,?_,?_⟩
   ·refine fun P H2 s2 e2=>⟨(s1.trans s2).seq hS,⟨by decide,by decide,hb⟩,fun c3=>⟨⟨by decide,A0 rfl⟩,(by show (0:Int)<4;decide),?_⟩⟩
    have:c3 / 7 % 4=0∨c3 / 7 % 4=1∨c3 / 7 % 4=2∨c3 / 7 % 4=3:=by omega
    rcases this with z|z|z|z
    ·exact ⟨_,.int 2,Ay.of e2,(by show Nv _ (c3 / 7 % 4)=_;rw [z];rfl),2,rfl,s2,by decide⟩
    ·exact ⟨_,.int 4,Ay.of e2,(by show Nv _ (c3 / 7 % 4)=_;rw [z];rfl),4,rfl,s2,by decide⟩
    ·exact ⟨_,.int 40,Ay.of e2,(by show Nv _ (c3 / 7 % 4)=_;rw [z];rfl),40,rfl,s2,by decide⟩
    ·exact ⟨_,.int 10000,Ay.of e2,(by show Nv _ (c3 / 7 % 4)=_;rw [z];rfl),10000,rfl,s2,by decide⟩
   rintro σ H2 ⟨ds,rfl,s2,ds1⟩
   have s02:=s1.trans s2
   have e2:=s2 _ _ e1
   refine ⟨by decide,fun G hG=>?_⟩
   have hG0:H2 G=none:=hG
   have s3:Ah H2 (upd H2 G (.lst [])):=Am hG
   have e3:upd H2 G (.lst []) G=some (.lst []):=Ad
   generalize upd H2 G (.lst [])=H3 at s3 e3
   refine ⟨(s02.trans s3).seq hS,⟨by decide,by decide,hb⟩,fun c4=>⟨(by show (0:Int)<21;decide),?_⟩⟩
   have x0:=Int.emod_nonneg c4 (show (21:Int)≠0 by decide)
   have x1:=Int.emod_lt_of_pos c4 (show (0:Int)<21 by decide)
   refine ⟨_,rfl,by omega,by omega,J4 (lo:=0) (n:=(c4 % 21).toNat) (fun i σ H'=>∃(vs:List V) (gs:List Gm) (o4:Option V),σ=[some (.ref a),some (.ref NL),some (.int ds),some (.ref G),o4,none,none,none,none,none,none,none]∧Ah H2 H'∧H' G=some (.lst vs)∧At (Bw H') vs gs∧gs.length=i∧(∀g∈gs,g.a∈nm∧g.b∈nm)∧∀g∈gs,(0≤g.h∧g.h≤2)∧g.a≠g.b) ⟨[],[],none,rfl,s3,e3,.nil,rfl,fun g h=>by (cases h),fun g h=>by (cases h)⟩ ?_ ?_⟩
   ·rintro i σ H4 hi ⟨vs,gs,o4,rfl,s4,e4,a4,l4,gm,gok⟩
    have n15:(0:Int)<10 ^ Int.toNat 15:=by decide
    refine ⟨.inl ⟨rfl,_,Ay.of e4⟩,(s02.trans s4).seq hS,⟨by omega,by omega,hb⟩,fun c5=>⟨⟨by decide,by decide,by decide⟩,n15,nm,⟨s4 _ _ e2,by omega,by omega,nd,ds1⟩,fun v g H5 s5 hg ga gb ne h0 h2=>?_⟩⟩
    have kt:Kt H5 (upd H5 G (.lst (vs++[v]))):=Go (s5 _ _ e4)
    refine ⟨G,vs,_,rfl,rfl,s5 _ _ e4,?_,vs++[v],gs++[g],_,rfl,Cb (s4.trans s5) hG0,Ad,(a4.imp fun v g r=>B6 v g _ _ ((A7 s5).trans kt) r).snoc (B6 _ _ _ _ kt hg),by rw [List.length_append,l4];rfl,fun m hm=>?_,fun m hm=>?_⟩
    ·rw [a4.len,l4]
     exact Nat.lt_of_lt_of_le (show i<100 by omega) (by decide)
    ·rcases List.mem_append.mp hm with h|h
     ·exact gm m h
     ·rw [List.mem_singleton.mp h]
      exact ⟨ga,gb⟩
    ·rcases List.mem_append.mp hm with h|h
     ·exact gok m h
     ·rw [List.mem_singleton.mp h]
      exact ⟨⟨h0,h2⟩,ne⟩
   rintro σ H4 ⟨vs,gs,o4,rfl,s4,e4,a4,l4,gm,gok⟩
   have s04:=s02.trans s4
   refine ⟨_,rfl,by decide,by decide,Ye (n:=4) (fun _ y=>∃c:Int,y=.int c∧0≤c∧c≤1000000) (fun _ _ _ _ h=>h) (by decide) ?_ ?_⟩
   ·intro j H5 hj s5 P hP
    exact ⟨rfl,(s04.trans s5).seq hS,⟨by omega,by omega,hb⟩,fun c n H6 n0 n1 s6=>hP _ H6 s6 ⟨n,rfl,n0,n1⟩⟩
   intro C H5 ys s5 _ e5 l5 r5
   obtain ⟨st,fi,one,two,rfl,st1,fi1,on1,tw1⟩:=Akx l5 r5
   refine ⟨(s04.trans s5).seq hS,⟨by decide,by decide,hb⟩,fun c6=>⟨(by show (0:Int)<4;decide),_,.int st,Ay.of e5,rfl,_,.int fi,Ay.of e5,rfl,_,.int one,Ay.of e5,rfl,_,.int two,Ay.of e5,rfl,fun T H6 s6 e6=>?_⟩⟩
   have so0:=Int.emod_nonneg c6 (show (4:Int)≠0 by decide)
   have so1:=Int.emod_lt_of_pos c6 (show (0:Int)<4 by decide)
   have e6:H6 T=some (.tup [.int (c6 % 4),.int st,.int fi,.int one,.int two]):=e6
   generalize c6 % 4=so at e6 so0 so1
   have b:Nb st one two:=⟨st1.1,st1.2,on1.1,by omega,tw1.1,by omega⟩
   have bf:Bd 40 fi:=Dy (b:=1000001) (by omega) (by omega) (A0 rfl)
   have s06:=s04.trans (s5.trans s6)
   refine ⟨⟨s06.seq hS,hb⟩,fun R0 rows H7 s7 t7 good=>?_⟩
   obtain ⟨rvs,e7,ar⟩:=t7
   have tb:=Aee good
   refine ⟨so,st,fi,one,two,rows,rvs,⟨s7 _ _ e6,so0,by omega,e7,ar,good⟩,fun v9 H9 s9 rl=>?_⟩
   obtain ⟨r,Cc,dx,fs,Tb',rfl,er9,kn,fd,t9,_⟩:=rl
   have hR:Ir K H9 r so st fi one two rows:=⟨Cc,dx,fs,Tb',er9,kn,fd,t9⟩
   have s49:=s5.trans (s6.trans (s7.trans s9))
   have e4:=s49 _ _ e4
   have a4:At (Bw H9) vs gs:=a4.imp fun v g r=>B6 v g _ _ (A7 s49) r
   have s09:=s04.trans s49
   have tk9:=tk0.up s09
   have eN9:=(s4.trans s49) _ _ e2
   have l20:gs.length≤20:=by omega
   have gl:vs.length=gs.length:=a4.len
   clear er9 kn fd t9 s7 e7 ar e6 s5 s6 e5 r5 l5 s49 x0 x1 s4 s04 s02 s2 s1 e2 e1 s06 s9
   intro L dxl hL hdl nel
   have s10:=Gb (C:=c_Ledger) hL hdl nel
   have e10:upd (upd H9 dxl (.own L)) L (.ins c_Ledger dxl []) L=some (.ins c_Ledger dxl []):=Ad
   generalize upd (upd H9 dxl (.own L)) L (.ins c_Ledger dxl [])=H10 at s10 e10
   refine ⟨_,dxl,so,st,fi,one,two,rows,⟨e10,er.y_Ledger,hR.up s10,good⟩,fun A R H11 s11 nA nAL nR lg11 hR11=>⟨rfl,?_⟩⟩
   have nRL:R≠L:=fun z=>by rw [z,e10] at nR;cases nR
   have s911:Ah H9 H11:=fun b o e=>s11 b o (fun z=>by rw [z,hL] at e;cases e) (s10 b o e)
   have tk11:=tk9.up s911
   obtain ⟨C11,dx11,fs11,eL11,_,_,kvs11,eA11,_⟩:=id lg11
   obtain ⟨ps,tt,_⟩:=id tk11
   have hr11:=hR.up s911
   have nrL:r≠L:=fun z=>by
    obtain ⟨_,_,_,_,e,_⟩:=id hR
    rw [z,hL] at e
    cases e
   obtain ⟨N,hN⟩:∃N,N=Nr [L,A,Bx K] H11:=⟨_,rfl⟩
   have keep:∀{b:Addr} {o:HO},H11 b=some o→(∀C dx fs,o≠.ins C dx fs)→(∀kvs,o≠.dK kvs)→(∀ps,o≠.tbl ps)→N b=some o:=fun {b o} e n1 n2 n3=>by
    rw [hN]
    refine Ck (fun z=>?_) e
    rcases List.mem_cons.mp z with z|z
    ·rw [z,eL11] at e
     exact n1 _ _ _ (Option.some.inj e).symm
    rcases List.mem_cons.mp z with z|z
    ·rw [z,eA11] at e
     exact n2 _ (Option.some.inj e).symm
    ·rw [List.mem_singleton.mp z,tt] at e
     exact n3 ps (Option.some.inj e).symm
   have sN11:Ah N H11:=by
    rw [hN]
    exact J5
   have nLN:N L=none:=by rw [hN];exact Bu (by simp)
   have nAN:N A=none:=by rw [hN];exact Bu (by simp)
   have nT:N (Bx K)=none:=by rw [hN];exact Bu (by simp)
   have ktN:Kt H11 N:=fun p xs e=>keep e (fun _ _ _=>nofun) (fun _=>nofun) (fun _=>nofun)
   have eNN:N NL=some (.lst (nm.map V.str)):=keep (s911 _ _ eN9) (fun _ _ _=>nofun) (fun _=>nofun) (fun _=>nofun)
   have eGN:N G=some (.lst vs):=keep (s911 _ _ e4) (fun _ _ _=>nofun) (fun _=>nofun) (fun _=>nofun)
   have aN:At (Bw N) vs gs:=a4.imp fun v g r=>B6 v g _ _ ((A7 s911).trans ktN) r
   have hX:∀X∈[L,A,Bx K],(∀zs,H11 X≠some (.lst zs))∧(∀zs,H11 X≠some (.tup zs))∧∀ob zs,H11 X≠some (.frz ob (.lst zs)):=fun X hX=>by
    rcases List.mem_cons.mp hX with z|hX
    ·rw [z,eL11]
     exact ⟨fun _=>nofun,fun _=>nofun,fun _ _=>nofun⟩
    rcases List.mem_cons.mp hX with z|hX
    ·rw [z,eA11]
     exact ⟨fun _=>nofun,fun _=>nofun,fun _ _=>nofun⟩
    ·rw [List.mem_singleton.mp hX,tt]
     exact ⟨fun _=>nofun,fun _=>nofun,fun _ _=>nofun⟩
   have hSN:Ay K N a (ns.map V.int):=by
    rw [hN]
    exact Abm ((s09.trans s911).seq hS) fun X h=>⟨(hX X h).1,(hX X h).2.2⟩
   have rls:∀{R':Addr},Ir K H11 R' so st fi one two rows→R'≠L→Ir K N R' so st fi one two rows:=fun {R'} h n=>by
    rw [hN]
    refine Ll h good.1.1 (fun z=>?_) fun X h=>⟨fun zs z=>absurd z ((hX X h).1 zs),(hX X h).2.1⟩
    obtain ⟨_,_,_,_,e,_⟩:=id h
    rcases List.mem_cons.mp z with z|z
    ·exact n z
    rcases List.mem_cons.mp z with z|z
    ·rw [z,eA11] at e
     cases e
    ·rw [List.mem_singleton.mp z,tt] at e
     cases e
   have hRN:=rls hR11 nRL
   have hrN:=rls hr11 nrL
   clear rls hX keep hN eL11 eA11 tt hr11 hR11 hR s10 e10 s11 nA nAL nR nRL nrL
   refine ⟨G,rfl,⟨_,Ay.of (sN11 _ _ eGN)⟩,Ah8 (N:=N) (fun i y=>y=.int ((i:Int)+1)) (fun i H'=>A3 H' (Bx K) Ce Gj∧Cf K H' L A R (wE gs (w1 i)) (i:Int)) (fun i H H' s h=>⟨h.1.up s,h.2.up s⟩) (fun i H D zs o e h=>⟨Dg h.1 Sx.upd (.inl ⟨_,e⟩),h.2.sxl e⟩) (by omega) sN11 (Ay.of eGN) ⟨tk11,lg11⟩ ?_ ?_⟩
   ·rintro i v H2 hv s2 ⟨tk2,lg2⟩ P hP
    obtain ⟨g,hg,pv,rfl,hpv⟩:=aN.get hv
    have il:i<gs.length:=(List.getElem?_eq_some_iff.mp hg).1
    obtain ⟨Cq,dxc,fsc,eL,hC,fdc,_⟩:=id lg2
    have hCc:=Ao hC er.y_Ledger
    subst hCc
    have gmm:=gm g (List.mem_of_getElem? hg)
    refine ⟨rfl,L,_,dxc,fsc,_,rfl,eL,.head _,fdc.pu,A,R,_,_,g,nm,⟨lg2,Aey gm (by omega),by (unfold wE w1;rw [List.length_map,List.length_map,List.length_range];omega),by omega,⟨pv,rfl,s2 _ _ hpv⟩,gmm.1,gmm.2,tk2⟩,fun r' D H8 p fr nD er8 lg8 tk8 eD stb=>⟨_,er8,?_⟩⟩
    obtain ⟨klF,ktF⟩:=Ef fr lg2 tk2
    refine hP _ H8 (Tl fr s2 nLN nAN nT) klF rfl ⟨tk8,?_⟩
    rw [Ac9 hg]
    exact lg8
   intro F H12 ys sN12 nFN _ eF lF rF ⟨tk12,lg12⟩
   have eY:=Ajs lF rF
   rw [gl] at eY lg12
   subst eY
   obtain ⟨C12,dx12,fs12,eL12,_,_,kvs12,eA12,_⟩:=id lg12
   intro L2 dx2 hL2 hd2 ne2
   have s13:=Gb (C:=c_Ledger) hL2 hd2 ne2
   have e13:upd (upd H12 dx2 (.own L2)) L2 (.ins c_Ledger dx2 []) L2=some (.ins c_Ledger dx2 []):=Ad
   generalize upd (upd H12 dx2 (.own L2)) L2 (.ins c_Ledger dx2 [])=H13 at s13 e13
   refine ⟨_,dx2,so,st,fi,one,two,rows,⟨e13,er.y_Ledger,(hrN.up sN12).up s13,good⟩,fun A2 R2 H14 s14 nA2 nAL2 nR2 lg14 hR14=>⟨rfl,?_⟩⟩
   have nRL2:R2≠L2:=fun z=>by rw [z,e13] at nR2;cases nR2
   have s1214:Ah H12 H14:=fun b o e=>s14 b o (fun z=>by rw [z,hL2] at e;cases e) (s13 b o e)
   have tk14:=tk12.up s1214
   have lg1:=lg12.up s1214
   have sN14:=sN12.trans s1214
   have nL2N:N L2=none:=Bl sN12 hL2
   have nA2N:N A2=none:=Bl (sN12.trans s13) nA2
   have nLL:L≠L2:=fun z=>by rw [←z,eL12] at hL2;cases hL2
   have nAA:A≠A2:=fun z=>by rw [←z,s13 _ _ eA12] at nA2;cases nA2
   have nR2L:R2≠L:=fun z=>by rw [z,s13 _ _ eL12] at nR2;cases nR2
   have nRL2':R≠L2:=fun z=>by
    obtain ⟨_,_,_,_,e,_⟩:=id hRN
    rw [z,nL2N] at e
    cases e
   have nRL:R≠L:=fun z=>by
    obtain ⟨_,_,_,_,e,_⟩:=id hRN
    rw [z,nLN] at e
    cases e
   have nrL2:r≠L2:=fun z=>by
    obtain ⟨_,_,_,_,e,_⟩:=id hrN
    rw [z,nL2N] at e
    cases e
   have nrL:r≠L:=fun z=>by
    obtain ⟨_,_,_,_,e,_⟩:=id hrN
    rw [z,nLN] at e
    cases e
   have eF14:=s1214 _ _ eF
   refine ⟨A2,R2,gs,vs,nm,⟨lg14,tk14,sN14.seq hSN,hb,⟨sN14 _ _ eGN,aN.imp fun v g r=>B6 v g _ _ (A7 sN14) r,l20,gm⟩,sN14 _ _ eNN,by omega,by omega,nd,ds1⟩,fun Nd wsF last2 H15 fr nNd eNd lg15 tk15 ok15 pm pw=>?_⟩
   have sN15:=Tl fr sN14 nL2N nA2N nT
   obtain ⟨kl15,kt15⟩:=Ef fr lg14 tk14
   have lg1:=lg1.fr3 lg14 tk14 fr nLL nAA
   have eF15:=kl15 _ _ eF14
   have hR15:=hRN.up sN15
   have hr15:=hrN.up sN15
   have hR215:Ir K H15 R2 so st fi one two rows:=by
    obtain ⟨_,_,_,eLx,_,_,_,eAx,_⟩:=id lg14
    obtain ⟨_,ttx,_⟩:=id tk14
    have h:=Ll (Xs:=[L2,A2,Bx K]) hR14 good.1.1 (fun z=>by
     obtain ⟨_,_,_,_,e,_⟩:=id hR14
     rcases List.mem_cons.mp z with z|z
     ·exact nRL2 z
     rcases List.mem_cons.mp z with z|z
     ·rw [z,eAx] at e
      cases e
     ·rw [List.mem_singleton.mp z,ttx] at e
      cases e) fun X hX=>by
     rcases List.mem_cons.mp hX with z|hX
     ·rw [z,eLx]
      exact ⟨fun _=>nofun,fun _=>nofun⟩
     rcases List.mem_cons.mp hX with z|hX
     ·rw [z,eAx]
      exact ⟨fun _=>nofun,fun _=>nofun⟩
     ·rw [List.mem_singleton.mp hX,ttx]
      exact ⟨fun _=>nofun,fun _=>nofun⟩
    exact h.up (Tl fr J5 (Bu (by simp)) (Bu (by simp)) (Bu (by simp)))
   obtain ⟨_,_,_,eLa,_,_,_,eAa,_⟩:=id lg1
   obtain ⟨_,_,_,eLb,_,_,_,eAb,_⟩:=id lg15
   obtain ⟨_,tt,_⟩:=id tk15
   obtain ⟨M,hM⟩:∃M,M=Nr [L,A,Bx K,L2,A2,F] H15:=⟨_,rfl⟩
   have cs:∀{X:Addr} {o:HO},X∈[L,A,Bx K,L2,A2,F]→H15 X=some o→(X=L∨X=L2)∨(∃kvs,o=.dK kvs∧(X=A∨X=A2))∨(∃ps,o=.tbl ps)∨o=.lst (fl 0 gs.length):=fun {X o} h e=>by
    rcases List.mem_cons.mp h with z|h
    ·exact .inl (.inl z)
    rcases List.mem_cons.mp h with z|h
    ·rw [z,eAa] at e
     exact .inr (.inl ⟨_,(Option.some.inj e).symm,.inl z⟩)
    rcases List.mem_cons.mp h with z|h
    ·rw [z,tt] at e
     exact .inr (.inr (.inl ⟨_,(Option.some.inj e).symm⟩))
    rcases List.mem_cons.mp h with z|h
    ·exact .inl (.inr z)
    rcases List.mem_cons.mp h with z|h
    ·rw [z,eAb] at e
     exact .inr (.inl ⟨_,(Option.some.inj e).symm,.inr z⟩)
    ·rw [List.mem_singleton.mp h,eF15] at e
     exact .inr (.inr (.inr (Option.some.inj e).symm))
   have insL:∀{X:Addr} {o:HO},X=L∨X=L2→H15 X=some o→∃C dx fs,o=.ins C dx fs:=fun {X o} h e=>by
    rcases h with z|z
    ·rw [z,eLa] at e
     exact ⟨_,_,_,(Option.some.inj e).symm⟩
    ·rw [z,eLb] at e
     exact ⟨_,_,_,(Option.some.inj e).symm⟩
   have hXs:∀X∈[L,A,Bx K,L2,A2,F],(∀zs,H15 X=some (.lst zs)→∃l:List Int,zs=l.map V.int)∧∀zs,H15 X≠some (.tup zs):=fun X hX=>by
    refine ⟨fun zs e=>?_,fun zs e=>?_⟩
    ·rcases cs hX e with z|⟨_,z,_⟩|⟨_,z⟩|z
     ·obtain ⟨_,_,_,z⟩:=insL z e
      cases z
     ·cases z
     ·cases z
     ·cases z
      exact Aco _ _
    ·rcases cs hX e with z|⟨_,z,_⟩|⟨_,z⟩|z
     ·obtain ⟨_,_,_,z⟩:=insL z e
      cases z
     ·cases z
     ·cases z
     ·cases z
   have rls:∀{R':Addr},Ir K H15 R' so st fi one two rows→R'≠L→R'≠L2→Ir K M R' so st fi one two rows:=fun {R'} h n1 n2=>by
    rw [hM]
    refine Ll h good.1.1 (fun z=>?_) hXs
    obtain ⟨_,_,_,_,e,_⟩:=id h
    rcases cs z e with z|⟨_,z,_⟩|⟨_,z⟩|z
    ·exact z.elim n1 n2
    ·cases z
    ·cases z
    ·cases z
   have hRM:=rls hR15 nRL nRL2'
   have hR2M:=rls hR215 nR2L nRL2
   have hrM:=rls hr15 nrL nrL2
   have sM15:Ah M H15:=by
    rw [hM]
    exact J5
   have ktM:Kt H15 M:=fun p xs e=>by
    rw [hM]
    exact Ck (fun z=>(hXs _ z).2 _ e) e
   have aM:At (Bw M) vs gs:=aN.imp fun v g r=>B6 v g _ _ ((A7 sN15).trans ktM) r
   have nFG:G≠F:=fun z=>by rw [z,nFN] at eGN;cases eGN
   have eGM:M G=some (.lst vs):=by
    rw [hM]
    refine Ck (fun z=>?_) (sN15 _ _ eGN)
    have e:=sN15 _ _ eGN
    rcases List.mem_cons.mp z with z|z
    ·rw [z,eLa] at e
     cases e
    rcases List.mem_cons.mp z with z|z
    ·rw [z,eAa] at e
     cases e
    rcases List.mem_cons.mp z with z|z
    ·rw [z,tt] at e
     cases e
    rcases List.mem_cons.mp z with z|z
    ·rw [z,eLb] at e
     cases e
    rcases List.mem_cons.mp z with z|z
    ·rw [z,eAb] at e
     cases e
    ·exact nFG (List.mem_singleton.mp z)
   have eNM:M Nd=some (.dK (wK wsF)):=by
    rw [hM]
    refine Ck (fun z=>?_) eNd
    obtain ⟨_,_,_,eLx,_,_,_,eAx,_⟩:=id lg14
    obtain ⟨_,_,_,_,_,_,_,eAy,_⟩:=id (lg12.up s1214)
    rcases cs z eNd with z|⟨_,z,z'⟩|⟨_,z⟩|z
    ·obtain ⟨_,_,_,z⟩:=insL z eNd
     cases z
    ·rcases z' with z|z
     ·rw [z,eAy] at nNd
      cases nNd
     ·rw [z,eAx] at nNd
      cases nNd
    ·cases z
    ·cases z
   have mL:M L=none:=by rw [hM];exact Bu (by simp)
   have mA:M A=none:=by rw [hM];exact Bu (by simp)
   have mT:M (Bx K)=none:=by rw [hM];exact Bu (by simp)
   have mL2:M L2=none:=by rw [hM];exact Bu (by simp)
   have mA2:M A2=none:=by rw [hM];exact Bu (by simp)
   have mF:M F=none:=by rw [hM];exact Bu (by simp)
   have okF:=Aks ok15.inc pm pw
   have okN:=okF.nd
   have tw:Two K M H15 L A R L2 A2 R2 F nm gs wsF (w1 gs.length) wsF (gs.length:Int) last2 0:=⟨sM15,tk15,lg1,Aey gm (Nat.le_refl _),Ai5 gs,fun w hw=>by
    obtain ⟨i,_,rfl⟩:=List.mem_map.mp hw
    rfl,lg15,ok15,okF,fun w hw=>hw,eF15,by (unfold w1;rw [List.length_map,List.length_range];exact l20),by (have:=pm.length_eq;rw [List.length_map,List.length_range] at this;omega)⟩
   clear rls hXs insL cs hM
   clear eLa eAa eLb eAb tt hR15 hr15 hR215 eF14 eNd nNd ktM
   refine ⟨M,A,R,A2,R2,_,_,_,_,so,st,fi,one,two,rows,gs,vs,nm,⟨tw.g1,tw.g2,tw.tk,⟨tw.sm _ _ eGM,aM.imp fun v g r=>B6 v g _ _ (A7 tw.sm) r,l20,gm,gok,sok⟩,⟨Vx tw.w1,Vx tw.w2⟩,⟨tw.sm,mT,hRM,hR2M,hrM⟩,tb,b,bf⟩,fun H16 sm16 tk16=>⟨fun h=>nb h,fun _=>?_⟩⟩
   have tw:=tw.up sm16 tk16 mT
   clear sm16 tk16 okF pm pw ok15 lg15 tk15 lg1 eF15 sM15 sN15 kl15 kt15 fr hR14 lg14 tk14 hRN hrN
   have cls:∀{L A R:Addr} {H':Hp} {es':List En} {last':Int},Cf K H' L A R es' last'→∃dx fs,H' L=some (.ins c_Ledger dx fs)∧LFd fs A R last':=fun h=>by
    obtain ⟨C,dx,fs,eL,hC,fd,_⟩:=h
    have hCc:=Ao hC er.y_Ledger
    subst hCc
    exact ⟨dx,fs,eL,fd⟩
   have n8:nm.length≤8:=by omega
   refine ⟨_,.inl (Ay.of (tw.sm _ _ eGM)),_,rfl,by omega,by omega,J4 (lo:=0) (n:=((vs.length:Nat):Int).toNat) (fun i σ H'=>∃(o4:Option V) (ws1 ws2:List (Nat×Int)) (last1 last2:Int),σ=[some (.ref a),some (.ref NL),some (.int ds),some (.ref G),o4,some (.ref C),some (.ref T),some (.ref r),some (.ref L),some (.ref F),some (.ref L2),some (.ref Nd)]∧Two K M H' L A R L2 A2 R2 F nm gs wsF ws1 ws2 last1 last2 i) ⟨_,_,_,_,_,rfl,tw⟩ ?_ ?_⟩
   ·clear tw
    rintro i σ H4 hi ⟨o4,ws1,ws2,la1,la2,rfl,tw⟩
    have il:i<gs.length:=by omega
    obtain ⟨dx,fs,eL,fd⟩:=cls tw.g1
    have hF:=tw.fi
    rw [Ac7 il] at hF
    have l1:=tw.l1
    have l2:=tw.l2
    obtain ⟨w,hw,ew⟩:=List.mem_map.mp ((tw.w1.mem i).mpr ⟨Nat.le_refl _,il⟩)
    have ew2:=tw.n1 w hw
    have hw1:(i,(i:Int)+1)∈ws1:=by
     rw [←ew,←ew2]
     exact hw
    obtain ⟨w2,hw2,ew'⟩:=List.mem_map.mp ((tw.w2.mem i).mpr ⟨Nat.le_refl _,il⟩)
    obtain ⟨i',z⟩:=w2
    have ew':i'=i:=ew'
    subst ew'
    refine ⟨L,_,dx,fs,_,rfl,eL,.head _,fd.ta,.inl ⟨rfl,_,Ay.of hF⟩,F,_,_,0,.int ((i':Int)+1),rfl,rfl,hF,by omega,by omega,Va (u:=0) (Nat.succ_pos _),rfl,?_⟩
    have sx:Sx F H4 (upd H4 F (.lst (List.eraseIdx (.int ((i':Int)+1)::fl (i'+1) gs.length) 0))):=Sx.upd
    have eF5:upd H4 F (.lst (List.eraseIdx (.int ((i':Int)+1)::fl (i'+1) gs.length) 0)) F=some (.lst (fl (i'+1) gs.length)):=Ad
    have g1:=tw.g1.sxl (o:=.lst (List.eraseIdx (.int ((i':Int)+1)::fl (i'+1) gs.length) 0)) hF
    have g2:=tw.g2.sxl (o:=.lst (List.eraseIdx (.int ((i':Int)+1)::fl (i'+1) gs.length) 0)) hF
    have tk5:=Dg tw.tk sx (.inl ⟨_,hF⟩)
    have sM5:=sx.n tw.sm mF
    generalize upd H4 F (.lst (List.eraseIdx (.int ((i':Int)+1)::fl (i'+1) gs.length) 0))=H5 at sx eF5 g1 g2 tk5 sM5
    refine ⟨A,R,_,_,gs.getD i' gz,nm,⟨g1,tw.o1,by rw [Aay];omega,n8,List.mem_map.mpr ⟨_,hw1,rfl⟩,tk5⟩,fun D H6 p fr nD lg6 tk6 eD stb=>?_⟩
    obtain ⟨kl6,kt6⟩:=Ef fr g1 tk5
    have g2:=g2.fr3 g1 tk5 fr (Ne.symm nLL) (Ne.symm nAA)
    have sM6:=Tl fr sM5 mL mA mT
    obtain ⟨dx',fs',eL',fd'⟩:=cls g2
    have gv:Fm H6 Nd (.int (0+(i':Int))) (some (.int z)):=by
     have:=Wh okN (tw.n2 _ hw2)
     rw [show (0:Int)+(i':Int)=(i':Int) by omega,←this]
     exact .inl ⟨_,Sum.inl _,.inl (sM6 _ _ eNM),rfl,rfl⟩
    refine ⟨L2,_,dx',fs',_,rfl,eL',.head _,fd'.ta,Nd,_,rfl,gv,A2,R2,_,_,gs.getD i' gz,nm,⟨g2,tw.o2,by rw [Aay];omega,n8,List.mem_map.mpr ⟨_,hw2,rfl⟩,tk6⟩,fun D' H7 p' fr' nD' lg7 tk7 eD' stb'=>?_⟩
    obtain ⟨kl7,kt7⟩:=Ef fr' g2 tk6
    have lg6:=lg6.fr3 g2 tk6 fr' nLL nAA
    have sM7:=Tl fr' sM6 mL2 mA2 mT
    obtain ⟨e1,ok1⟩:=Te tw.w1 hw1
    obtain ⟨e2,ok2⟩:=Te tw.w2 hw2
    have o1:=Aew (z:=(i':Int)+1) tw.o1
    have o2:=Aew (z:=z) tw.o2
    rw [e1] at lg6 o1
    rw [e2] at lg7 o2
    have tw7:Two K M H7 L A R L2 A2 R2 F nm gs wsF _ _ la1 la2 (i'+1):=⟨sM7,tk7,lg6,o1,ok1,fun w hw=>tw.n1 w (List.mem_filter.mp hw).1,lg7,o2,ok2,fun w hw=>tw.n2 w (List.mem_filter.mp hw).1,kl7 _ _ (kl6 _ _ eF5),Nat.le_trans (List.length_filter_le ..) l1,Nat.le_trans (List.length_filter_le ..) l2⟩
    clear tw lg6 lg7 o1 o2 ok1 ok2 e1 e2 g1 g2
    refine ⟨(by show (0:Int)<5;decide),⟨fun _=>⟨_,rfl,_,Ay.of (tw7.sm _ _ eGM),fun P H8 s8 e8=>?_⟩,fun _=>⟨fun h=>nb h,fun _=>⟨_,_,_,_,_,rfl,tw7⟩⟩⟩⟩
    have ec:Hd vs (some (0+(i':Int)+1)) none=vs.drop (i'+1):=by
     rw [show 0+(i':Int)+1=((i'+1:Nat):Int) by omega,Sg (by omega)]
    have e8:H8 P=some (.lst (vs.drop (i'+1))):=by
     rw [←ec]
     exact e8
    have tw8:=tw7.up (fun b o _ e=>s8 b o e) (tw7.tk.up s8) mT
    refine ⟨M,A,R,A2,R2,_,_,_,_,so,st,fi,one,two,rows,gs.drop (i'+1),_,nm,⟨tw8.g1,tw8.g2,tw8.tk,⟨e8,(aM.drop (i'+1)).imp fun v g r=>B6 v g _ _ (A7 tw8.sm) r,by rw [List.length_drop];omega,fun g hg=>gm g (List.mem_of_mem_drop hg),fun g hg=>gok g (List.mem_of_mem_drop hg),sok⟩,⟨Vx tw8.w1,Vx tw8.w2⟩,⟨tw8.sm,mT,hRM,hR2M,hrM⟩,tb,b,bf⟩,fun H9 sm9 tk9=>⟨fun h=>nb h,fun _=>?_⟩⟩
    exact ⟨_,_,_,_,_,rfl,tw8.up sm9 tk9 mT⟩
   clear tw
   rintro σ H4 ⟨o4,ws1,ws2,la1,la2,rfl,tw⟩
   have eN:((vs.length:Nat):Int).toNat=gs.length:=by omega
   rw [eN] at tw
   have z1:=V7 tw.w1
   have z2:=V7 tw.w2
   subst z1
   subst z2
   obtain ⟨dx,fs,eL,fd⟩:=cls tw.g1
   have fin:∀{H5 H6:Hp} {B Z:Addr} {bv:List V},bv=[]→H5 B=some (.lst bv)→H5 Z=none→H6=upd H5 Z (.lst [])→H6 B=some (.lst [])∧H6 Z=some (.lst [])∧Ah H5 H6:=fun {H5 H6 B Z bv} h e n z=>by
    subst h
    subst z
    exact ⟨Am n _ _ e,Ad,Am n⟩
   have nilG:∀{H5:Hp} {bv:List V} {p:List Nat},At (Bw H5) bv (pg ((wE gs []).map (·.2)) p)→bv=[]:=fun {H5 bv p} h=>by
    rw [show ((wE gs []).map (·.2))=[] from rfl,Aii] at h
    cases h
    rfl
   refine ⟨L,_,dx,fs,_,rfl,eL,.head _,fd.ga,A,R,_,_,⟨tw.g1,Nat.zero_le _,tw.tk⟩,fun B bv H5 p5 sm5 nB eB tk5 stb5 aB=>⟨by decide,fun Z hZ=>?_⟩⟩
   have tw5:=tw.up sm5 tk5 mT
   obtain ⟨f1,f2,f3⟩:=fin (nilG aB) eB hZ rfl
   generalize upd H5 Z (.lst [])=H6 at f1 f2 f3
   have tw6:=tw5.up (fun b o _ e=>f3 b o e) (tw5.tk.up f3) mT
   clear tw tw5 eL fd sm5 tk5 aB
   refine ⟨_,_,.lst (Ay.of f1) .nil,.lst (Ay.of f2) .nil,rfl,rfl,⟨fun _=>?_,fun h=>nb h⟩⟩
   clear f1 f2 f3
   obtain ⟨dx,fs,eL,fd⟩:=cls tw6.g2
   refine ⟨L2,_,dx,fs,_,rfl,eL,.head _,fd.ga,A2,R2,_,_,⟨tw6.g2,Nat.zero_le _,tw6.tk⟩,fun B bv H5 p5 sm5 nB eB tk5 stb5 aB=>⟨by decide,fun Z hZ=>?_⟩⟩
   have tw7:=tw6.up sm5 tk5 mT
   obtain ⟨f1,f2,f3⟩:=fin (nilG aB) eB hZ rfl
   generalize upd H5 Z (.lst [])=H7 at f1 f2 f3
   have tw8:=tw7.up (fun b o _ e=>f3 b o e) (tw7.tk.up f3) mT
   clear tw6 tw7 eL fd sm5 tk5 aB
   refine ⟨_,_,.lst (Ay.of f1) .nil,.lst (Ay.of f2) .nil,rfl,rfl,⟨fun _=>?_,fun h=>nb h⟩⟩
   clear f1 f2 f3
   obtain ⟨dx,fs,eL,fd⟩:=cls tw8.g1
   refine ⟨L,_,dx,fs,_,rfl,eL,.head _,fd.ws,A,R,_,_,so,st,fi,one,two,rows,⟨tw8.g1,L8 hRM mT tw8.sm,tb,b,bf,Nat.zero_le _,fun e he=>by (cases he),tw8.tk⟩,fun B bv H5 p5 sm5 nB eB tk5 stb5 aB=>⟨by decide,fun Z hZ=>?_⟩⟩
   have tw9:=tw8.up sm5 tk5 mT
   have zB:bv=[]:=by
    cases aB
    rfl
   obtain ⟨f1,f2,f3⟩:=fin zB eB hZ rfl
   generalize upd H5 Z (.lst [])=H8 at f1 f2 f3
   have tw10:=tw9.up (fun b o _ e=>f3 b o e) (tw9.tk.up f3) mT
   clear tw8 tw9 eL fd sm5 tk5 aB
   refine ⟨_,_,.lst (Ay.of f1) .nil,.lst (Ay.of f2) .nil,rfl,rfl,⟨fun _=>?_,fun h=>nb h⟩⟩
   clear f1 f2 f3
   obtain ⟨dx,fs,eL,fd⟩:=cls tw10.g2
   refine ⟨L2,_,dx,fs,_,rfl,eL,.head _,fd.ws,A2,R2,_,_,so,st,fi,one,two,rows,⟨tw10.g2,L8 hR2M mT tw10.sm,tb,b,bf,Nat.zero_le _,fun e he=>by (cases he),tw10.tk⟩,fun B bv H5 p5 sm5 nB eB tk5 stb5 aB=>⟨by decide,fun Z hZ=>?_⟩⟩
   have zB:bv=[]:=by
    cases aB
    rfl
   obtain ⟨f1,f2,f3⟩:=fin zB eB hZ rfl
   generalize upd H5 Z (.lst [])=H9 at f1 f2 f3
   refine ⟨_,_,.lst (Ay.of f1) .nil,.lst (Ay.of f2) .nil,rfl,rfl,?_⟩
   exact k H9
end
theorem lenE1:∀us:List Value,us.length=1→∃y0:Value,us=[y0]
 |[y0],_=>⟨_,rfl⟩
theorem lenE2:∀us:List Value,us.length=2→∃y0 y1:Value,us=[y0,y1]
 |[y0,y1],_=>⟨_,_,rfl⟩
theorem lenE3:∀us:List Value,us.length=3→∃y0 y1 y2:Value,us=[y0,y1,y2]
 |[y0,y1,y2],_=>⟨_,_,_,rfl⟩
theorem lenE4:∀us:List Value,us.length=4→∃y0 y1 y2 y3:Value,us=[y0,y1,y2,y3]
 |[y0,y1,y2,y3],_=>⟨_,_,_,_,rfl⟩
theorem lenE5:∀us:List Value,us.length=5→∃y0 y1 y2 y3 y4:Value,us=[y0,y1,y2,y3,y4]
 |[y0,y1,y2,y3,y4],_=>⟨_,_,_,_,_,rfl⟩
theorem lenE6:∀us:List Value,us.length=6→∃y0 y1 y2 y3 y4 y5:Value,us=[y0,y1,y2,y3,y4,y5]
 |[y0,y1,y2,y3,y4,y5],_=>⟨_,_,_,_,_,_,rfl⟩
theorem dmk {K:PySem.W.Frag}{h:Heap}{mg:Str→Option Value}{x:Str}{st:Stmt}{ps:List Str}{f:Addr}{od an:Option Addr}{sl:Array (Option Value)}{oc kV dc pm cd ct:Value}(X:K.In h)(G:h.Ns mainGlobals mg)(a:PySem.W.nsIn K mainGlobals x=some (some (.ref f)))(l:K.lookup f=some ⟨oc,od,.func (PySem.W.fnOf x x (C9 st) (Bz st) (Af st) .none kV dc pm an cd ct),sl⟩)(e:PySem.W.codeIn K cd x=true)(k:PySem.W.keepIn K (.ref f)=true)(hb:∀(kV doc pm:Value) (an:Option Addr) (cdv ct:Value) (us:List Value),us.length=ps.length→bindArgs (PySem.W.fnOf x x (C9 st) (Bz st) (Af st) .none kV doc pm an cdv ct) ⟨us,[]⟩=pure (ps.zip us)):B8 K mg x st ps:=⟨⟨_,_,Km l e k,PySem.W.mg_of X G a,(Km l e k).binds hb⟩⟩
theorem mmk {K:PySem.W.Frag}{x q:Str}{Cs Ds:List Addr}{st:Stmt}{ps:List Str}{f:Addr}{od an:Option Addr}{sl:Array (Option Value)}{oc kV dc pm cd ct:Value}(A:∀C∈Cs,Aaa K C x f)(B:∀C∈Ds,PySem.W.findCls K (.ref C) (.type "type") x=some (.val (.ref f)))(l:K.lookup f=some ⟨oc,od,.func (PySem.W.fnOf x q (C9 st) (Bz st) (Af st) .none kV dc pm an cd ct),sl⟩)(e:PySem.W.codeIn K cd q=true)(k:PySem.W.keepIn K (.ref f)=true)(hb:∀(kV doc pm:Value) (an:Option Addr) (cdv ct:Value) (us:List Value),us.length=ps.length→bindArgs (PySem.W.fnOf x q (C9 st) (Bz st) (Af st) .none kV doc pm an cdv ct) ⟨us,[]⟩=pure (ps.zip us)):B0 K Cs Ds x q st ps:=⟨⟨_,_,Km l e k,A,B,(Km l e k).binds hb⟩⟩
theorem tup_mk {K:PySem.W.Frag}{a:Addr}{xs:List V}{us:Array Value}{n:Nat}{sl:Array (Option Value)}(p:K.lookup a=some ⟨.type "tuple",none,.seq us n,sl⟩)(h:us.size≤sizeLine)(q:A4 xs us.toList):Abl K a xs:=⟨fun H=>.inr ⟨_,_,_,p,rfl,rfl,h,q⟩,⟨_,p,rfl,rfl⟩⟩
theorem all_mk {l:PySem.W.OpenLaw}{w:World}{K:PySem.W.Frag}{h:Heap}{mg:Str→Option Value}{fa:Addr}{f8:Addr}{od8 an8:Option Addr}{sl8:Array (Option Value)}{oc8 kV8 dc8 pm8 ct8:Value}{f52:Addr}{od52 an52:Option Addr}{sl52:Array (Option Value)}{oc52 kV52 dc52 pm52 cd52 ct52:Value}{ts:List Addr}{cc tP:Addr}{vsC:Array Value}{clC:Value}{cdC:Option Addr}{slC:Array (Option Value)}{c_Capped c_Early c_Ledger c_NoTable c_Rested c_Rule:Addr}{a_FIRST_ROW:Addr}{b_FIRST_ROW_1:Addr}(X:K.In h)(G:h.Ns mainGlobals mg)(hfa:mg "law"=some (.ref fa))(d_is_whole:B8 K mg "is_whole" Hz ["thing"])(d_fraction:B8 K mg "fraction" Hu ["top","bottom"])(d_greatest_divisor:B8 K mg "greatest_divisor" Cr ["one","other"])(d_plus:B8 K mg "plus" Vg ["one","other"])(d_minus:B8 K mg "minus" P1 ["one","other"])(d_under:B8 K mg "under" Rk ["one","other"])(d_is_between:B8 K mg "is_between" F3 ["thing","least","most"])(d_check_size:B8 K mg "check_size" F9 ["games"])(a8:PySem.W.nsIn K mainGlobals "in_order"=some (some (.ref f8)))(l8:K.lookup f8=some ⟨oc8,od8,.func (PySem.W.fnOf "in_order" "in_order" (C9 Cp) (Bz Cp) (Af Cp) .none kV8 dc8 pm8 an8 (.ref cc) ct8),sl8⟩)(e8:PySem.W.codeIn K (.ref cc) "in_order"=true)(k8:PySem.W.keepIn K (.ref f8)=true)(d_players:B8 K mg "players" J6 ["games"])(d_trail:B8 K mg "trail" Qp ["rule","games"])(d_next_step:B8 K mg "next_step" Gw ["rule","worths","days","played"])(d_rest_behind:B8 K mg "rest_behind" E8 ["days","day"])(d_move:B8 K mg "move" Uv ["worths","step"])(d_running:B8 K mg "running" Kq ["rule","games"])(d_Ledger___init__:B0 K [c_Ledger] [] "__init__" "Ledger.__init__" C1 ["self","rule"])(d_Ledger_put:B0 K [c_Ledger] [] "put" "Ledger.put" F7 ["self","played"])(d_Ledger_take:B0 K [c_Ledger] [] "take" "Ledger.take" Fb ["self","number"])(d_Ledger_games:B0 K [c_Ledger] [] "games" "Ledger.games" Ek ["self"])(d_Ledger_worths:B0 K [c_Ledger] [] "worths" "Ledger.worths" Eb ["self"])(d_reached:B8 K mg "reached" J8 ["kept","number"])(d_behind:B8 K mg "behind" Me ["kept","number"])(d_table_of:B8 K mg "table_of" Hn ["rows"])(d_is_row:B8 K mg "is_row" Ly ["thing"])(d_is_pair:B8 K mg "is_pair" J0 ["thing"])(d_is_share:B8 K mg "is_share" Ho ["thing"])(d_goes_on:B8 K mg "goes_on" Ki ["row","later"])(d_share_by:B8 K mg "share_by" Er ["table","difference"])(d_Rule___init__:B0 K [c_Rule] [c_Rule] "__init__" "Rule.__init__" D9 ["self","step","first","table"])(d_Rule_size:B0 K [c_Rule,c_Capped] [] "size" "Rule.size" Gz ["self","played","rest"])(d_Rule_bit:B0 K [c_Rule,c_Early,c_Rested] [] "bit" "Rule.bit" Ig ["self","difference","halves","played","rest"])(d_Rule_twin:B0 K [c_Rule] [] "twin" "Rule.twin" Gs ["self"])(d_Early___init__:B0 K [c_Early] [] "__init__" "Early.__init__" Dk ["self","step","first","table","early","many"])(d_Early_size:B0 K [c_Early] [] "size" "Early.size" Fv ["self","played","rest"])(d_Early_twin:B0 K [c_Early] [] "twin" "Early.twin" Gd ["self"])(d_Rested___init__:B0 K [c_Rested] [] "__init__" "Rested.__init__" C8 ["self","step","first","table","pause","times"])(d_Rested_size:B0 K [c_Rested] [] "size" "Rested.size" Fc ["self","played","rest"])(d_Rested_twin:B0 K [c_Rested] [] "twin" "Rested.twin" E5 ["self"])(d_Capped___init__:B0 K [c_Capped] [] "__init__" "Capped.__init__" C6 ["self","step","first","table","cap"])(d_Capped_bit:B0 K [c_Capped] [] "bit" "Capped.bit" Fw ["self","difference","halves","played","rest"])(d_Capped_twin:B0 K [c_Capped] [] "twin" "Capped.twin" E7 ["self"])(d_uncut_bit:B8 K mg "uncut_bit" Gq ["size","share","halves"])(d_cut:B8 K mg "cut" Abd ["one","cap"])(d_l_cell:B8 K mg "_law_cell" No ["_law_script","_law_k"])(d_l_names:B8 K mg "_law_names" Jy ["_law_cell_here","_law_many"])(d_l_game:B8 K mg "_law_game" Lo ["_law_cell_here","_law_names_here","_law_days"])(d_l_number:B8 K mg "_law_number" Ii ["_law_cell_here"])(d_l_rows:B8 K mg "_law_rows" M6 ["_law_script"])(d_l_rule:B8 K mg "_law_rule" M8 ["_law_drawn","_law_rows_here"])(d_l_shuffled:B8 K mg "_law_shuffled" Gc ["_law_script","_law_games"])(d_l_fed:B8 K mg "_law_fed" Rf ["_law_ledger","_law_script","_law_games","_law_names_here","_law_days"])(d_l_alike:B8 K mg "_law_alike" J2 ["_law_one","_law_other","_law_games","_law_rule_here"])(a52:PySem.W.nsIn K mainGlobals "law"=some (some (.ref f52)))(l52:K.lookup f52=some ⟨oc52,od52,.func (PySem.W.fnOf "law" "law" (C9 Hm) (Bz Hm) (Af Hm) .none kV52 dc52 pm52 an52 cd52 ct52),sl52⟩)(e52:PySem.W.codeIn K cd52 "law"=true)(k52:PySem.W.keepIn K (.ref f52)=true)(t1:K.lookup cc=some ⟨clC,cdC,.fields vsC,slC⟩)(t2:(vsC[11]?:Option Value)=some (.ref tP))(t3:PySem.W.codeHdIn K cc tP=true)(t4:K.lookup tP=none)(t8:tP∈ts)(er:Bg K mg c_Capped c_Early c_Ledger c_NoTable c_Rested c_Rule)(n_abs:mg "abs"=none)(n_all:mg "all"=none)(n_bool:mg "bool"=none)(n_enumerate:mg "enumerate"=none)(n_int:mg "int"=none)(n_isinstance:mg "isinstance"=none)(n_len:mg "len"=none)(n_list:mg "list"=none)(n_max:mg "max"=none)(n_min:mg "min"=none)(n_range:mg "range"=none)(n_set:mg "set"=none)(n_sorted:mg "sorted"=none)(n_tuple:mg "tuple"=none)(n_zip:mg "zip"=none)(v_FIRST_ROW:Yi mg "FIRST_ROW" (.ref a_FIRST_ROW))(w_FIRST_ROW:Abl K a_FIRST_ROW [.int (0),.ref b_FIRST_ROW_1])(w_FIRST_ROW_1:Abl K b_FIRST_ROW_1 [.int (1),.int (2)])(v_LAST_FROM:Yi mg "LAST_FROM" (.int (1000000)))(v_MOST_GAMES:Yi mg "MOST_GAMES" (.int (40)))(v_MOST_PART:Yi mg "MOST_PART" (.int (9999)))(v_MOST_PLAYERS:Yi mg "MOST_PLAYERS" (.int (8)))(v_MOST_ROWS:Yi mg "MOST_ROWS" (.int (10))) :
  (∃c P,PySem.W.tabIn K "in_order"=some (c,P)∧PySem.W.codeHdIn K c P=true∧K.lookup P=none∧P∈ts)∧∃fd:FuncData,(∀(s:Shared) (v:Value),BindsTo s fd ⟨[v],[]⟩ [("_law_script",v)])∧∀base:Heap,K.In base→base.Ns mainGlobals mg→BmB mg base→He l.prog w K mg base (M4 l.prog w) 13 fa fd ["_law_script"] (G8 "in_order" K):=by
 have F8:=Km (st:=Cp) l8 e8 k8
 have d_in_order:B8 K mg "in_order" Cp ["games"]:=⟨⟨_,_,F8,PySem.W.mg_of X G a8,F8.binds fun _ _ _ _ _ _ us hl=>by obtain ⟨_,rfl⟩:=lenE1 us hl;rfl⟩⟩
 have F52:=Km (st:=Hm) l52 e52 k52
 have d_law:B8 K mg "law" Hm ["_law_script"]:=⟨⟨_,_,F52,PySem.W.mg_of X G a52,F52.binds fun _ _ _ _ _ _ us hl=>by obtain ⟨_,rfl⟩:=lenE1 us hl;rfl⟩⟩
 have e:=hfa.symm.trans (PySem.W.mg_of X G a52)
 cases e
 have tb:=Ahk (x:="in_order") a8 l8 rfl t1 t2
 have tk:∀base,BmB mg base→Ags K mg base "in_order":=fun base hbm=>⟨⟨_,_,_,_,_,cc,PySem.W.mg_of X G a8,l8,rfl,by rw [Vw tb];exact t3⟩,hbm⟩
 refine ⟨⟨_,_,tb,t3,t4,t8⟩,?_⟩
 refine ⟨PySem.W.fnOf "law" "law" (C9 Hm) (Bz Hm) (Af Hm) .none kV52 dc52 pm52 an52 cd52 ct52,fun s v=>.of_eq rfl,fun base _ _ hbm=>Ab8 F52 (PySem.W.mg_of X G a52) fun ns=>?_⟩
 have c_is_whole:=S6 (P:=l.prog) (w:=w) (base:=base) (ns:=ns) d_is_whole er n_isinstance n_bool n_int
 have c_greatest_divisor:=Hf (P:=l.prog) (w:=w) (base:=base) (ns:=ns) d_greatest_divisor er n_abs
 have c_under:=Zj (P:=l.prog) (w:=w) (base:=base) (ns:=ns) d_under er
 have c_players:=Uk (P:=l.prog) (w:=w) (base:=base) (ns:=ns) d_players er n_sorted n_set
 have c_rest_behind:=M5 (P:=l.prog) (w:=w) (base:=base) (ns:=ns) d_rest_behind er
 have c_is_pair:=Up (P:=l.prog) (w:=w) (base:=base) (ns:=ns) d_is_pair er n_len n_isinstance n_tuple
 have c_Rule_size:=Pr (P:=l.prog) (w:=w) (base:=base) (ns:=ns) d_Rule_size er
 have c_Early_size:=N7 (P:=l.prog) (w:=w) (base:=base) (ns:=ns) d_Early_size er
 have c_Rested_size:=Mx (P:=l.prog) (w:=w) (base:=base) (ns:=ns) d_Rested_size er
 have c_l_cell:=Xu (P:=l.prog) (w:=w) (base:=base) (ns:=ns) d_l_cell er n_len
 have c_l_names:=Uj (P:=l.prog) (w:=w) (base:=base) (ns:=ns) d_l_names er n_range
 have c_l_game:=Xn (P:=l.prog) (w:=w) (base:=base) (ns:=ns) d_l_game er n_len
 have c_l_number:=Sa (P:=l.prog) (w:=w) (base:=base) (ns:=ns) d_l_number er
 have c_fraction:=Uc d_fraction er c_greatest_divisor c_is_whole
 have c_is_between:=Ny d_is_between er c_is_whole
 have c_check_size:=Nt d_check_size er n_len v_MOST_PLAYERS v_MOST_GAMES c_players
 have c_goes_on:=Vf d_goes_on er c_under
 have c_cut:=Ahy d_cut er c_under
 have c_l_rows:=Xj d_l_rows er c_l_cell
 have c_l_shuffled:=Nx d_l_shuffled er n_len n_range c_l_cell
 have c_plus:=Acv d_plus er c_fraction
 have c_minus:=Aa4 d_minus er c_fraction
 have c_in_order:=Ua (P:=l.prog) (w:=w) (base:=base) (ns:=ns) d_in_order (tk base hbm) er n_sorted
 have c_is_share:=Tq d_is_share er v_MOST_PART c_fraction c_is_between c_is_pair
 have c_uncut_bit:=P9 d_uncut_bit er c_fraction
 have c_move:=Adw d_move er c_minus c_plus
 have c_Ledger_games:=K6 d_Ledger_games er n_list c_in_order
 have c_behind:=Y2 d_behind er c_in_order
 have c_is_row:=Yv d_is_row er v_LAST_FROM c_is_share c_is_between c_is_pair
 have c_reached:=U8 d_reached er n_sorted n_set n_list c_behind
 have c_table_of:=Sm d_table_of er n_list n_all n_zip n_len n_isinstance v_FIRST_ROW w_FIRST_ROW w_FIRST_ROW_1 v_MOST_ROWS c_goes_on c_is_row
 have c_Ledger_put:=Oa d_Ledger_put er n_list c_reached c_check_size
 have c_Ledger_take:=Ls d_Ledger_take er c_reached
 have c_share_by:=Tx d_share_by er c_under c_minus
 have c_Rule___init__:=Jv d_Rule___init__ er c_table_of
 have c_Rule_bit:=Tk d_Rule_bit er c_uncut_bit c_share_by c_Rule_size c_Rested_size c_Early_size
 have c_Early___init__:=Jb d_Early___init__ er c_Rule___init__
 have c_Rested___init__:=Io d_Rested___init__ er c_Rule___init__
 have c_Capped___init__:=Im d_Capped___init__ er c_Rule___init__
 have c_Capped_bit:=Nz d_Capped_bit er c_cut c_uncut_bit c_share_by c_Rule_size c_Rested_size c_Early_size
 have c_l_fed:=Abp d_l_fed er n_enumerate n_len c_Ledger_take c_l_shuffled c_Ledger_put c_l_game c_l_cell
 have c_next_step:=Qr d_next_step er n_max n_min n_len c_Capped_bit c_Rule_bit c_minus c_rest_behind
 have c_Rule_twin:=Rg d_Rule_twin er c_Rule___init__
 have c_trail:=Zx d_trail er c_in_order c_move c_next_step
 have c_Early_twin:=N3 d_Early_twin er c_Early___init__
 have c_Rested_twin:=Mi d_Rested_twin er c_Rested___init__
 have c_Capped_twin:=L9 d_Capped_twin er c_Capped___init__
 have c_l_rule:=Yn d_l_rule er c_Capped___init__ c_Rested___init__ c_Early___init__ c_Rule___init__
 have c_running:=Vo d_running er n_sorted c_trail c_move
 have c_Ledger___init__:=Hw d_Ledger___init__ er c_Capped_twin c_Rested_twin c_Early_twin c_Rule_twin
 have c_Ledger_worths:=J9 d_Ledger_worths er c_running c_Ledger_games
 have c_l_alike:=Uo d_l_alike er n_sorted c_Ledger_worths c_running c_Ledger_games
 exact Af1 d_law er n_range n_len c_Ledger_worths c_Ledger_games c_l_alike c_Ledger_take c_l_fed c_Ledger___init__ c_Ledger_put c_l_rule c_l_rows c_l_cell c_l_number c_l_game c_l_names
theorem walk {ts:List Addr}{l:PySem.W.OpenLaw}{q:Program}{loose:List Str}{XP:(Str→Option Value)→Heap→Prop}{YP:World→Heap→Prop}{d:DefRec}{K:Params→PySem.W.Frag}(hn:l.most=some 63)(hdf:d.params.defaults=[])
  (hY:∀(w:World) (h:Heap),YP w h→(K w.params).In h)
  (hT:∀(w:World) (h:Heap),YP w h→∀P∈ts,h.get? P=some (PySem.W.tabObj #[]))
  (F:∀(w:World) (mg:Str→Option Value) (fa:Addr) (h:Heap),(K w.params).In h→h.Ns mainGlobals mg→mg d.name=some (.ref fa)→(∃c P,PySem.W.tabIn (K w.params) "in_order"=some (c,P)∧PySem.W.codeHdIn (K w.params) c P=true∧(K w.params).lookup P=none∧P∈ts) ∧
   ∃fd:FuncData,(∀(s:Shared) (u:Value),BindsTo s fd ⟨[u],[]⟩ [("_law_script",u)])∧∀base:Heap,(K w.params).In base→base.Ns mainGlobals mg→BmB mg base→He l.prog w (K w.params) mg base (M4 l.prog w) 13 fa fd ["_law_script"] (G8 "in_order" (K w.params))) :
  PySem.W.WalkO q loose XP YP l.row.toRowW d [] (fun f vs=>PySem.call f vs):=
 Lw.walk_ofBT (y:="in_order") (n:=63) (k:=13) (x:="_law_script") (CX:=fun w=>M4 l.prog w) (sp:=fun w=>G8 "in_order" (K w.params)) hn (by decide) hdf ⟨rfl,by decide,by decide⟩ hY hT F (fun _ _ a ns hl hb hO hS=>⟨ns,a,rfl,hS,hl,hb,hO.1,fun _=>rfl⟩) fun _ _ _ _ _ z=>Ajn z
end My
def PySem.W.Fast.tw4943811703916212061:=0
def PySem.W.Fast.tw9646082526767128925:=0
def PySem.W.Fast.tw14904691426701108861:=0
def PySem.W.Fast.tw17179047524017164801:=0
def PySem.W.Fast.tw8166001853698067441:=0
def PySem.W.Fast.tw16531031989542621051:=0
def PySem.W.Fast.tw4709038506086075891:=0
def PySem.W.Fast.tw11376173933552211320:=0
def PySem.W.Fast.tw17309731225521969594:=0
def PySem.W.Fast.tw16020478062497088327:=0
def PySem.W.Fast.tw5969216604752475669:=0
def PySem.W.Fast.tw223702593654073780:=0
def PySem.W.Fast.tw1654736247844568862:=0
def PySem.W.Fast.tw18399971320834153859:=0
def PySem.W.Fast.tw9035786080585114473:=0
def PySem.W.Fast.tw6368816426676310890:=0
def PySem.W.Fast.tw4546280895038166084:=0
def PySem.W.Fast.tw11167830030450308485:=0
def PySem.W.Fast.tw5346118513862239026:=0
def PySem.W.Fast.tw6856059378690573502:=0
def PySem.W.Fast.tw13991582465554025891:=0
def PySem.W.Fast.tw14350439033282048342:=0
def PySem.W.Fast.tw6707819356029401665:=0
def PySem.W.Fast.tw13640033882185057134:=0
def PySem.W.Fast.tw9526097228340235140:=0
def PySem.W.Fast.tw9537733487607534384:=0
def PySem.W.Fast.tw6536422592143450827:=0
def PySem.W.Fast.tw15305897288044469174:=0
def PySem.W.Fast.tw8068494234776074195:=0
def PySem.W.Fast.tw15262632446175548695:=0
def PySem.W.Fast.tw8420943056724215609:=0
def PySem.W.Fast.tw1769262261873701176:=0
def PySem.W.Fast.tw2043797147118371998:=0
def PySem.W.Fast.tw11114214767943005252:=0
def PySem.W.Fast.tw5808903976865602497:=0
def PySem.W.Fast.tw15965323160741811686:=0
def PySem.W.Fast.tw9042813718848677966:=0
def PySem.W.Fast.tw12275052221444778286:=0
def PySem.W.Fast.tw9722820453438772815:=0
def PySem.W.Fast.tw16347534773780758984:=0
def PySem.W.Fast.tw11281359376730533198:=0
def PySem.W.Fast.tw1950551497497087705:=0
def PySem.W.Fast.tw18052056782927239015:=0
def PySem.W.Fast.tw17262077310739182172:=0
def PySem.W.Fast.tw2528742056808739963:=0
def PySem.W.Fast.tw16649767273665532803:=0
def PySem.W.Fast.tw1710033019152134843:=0
def PySem.W.Fast.tw8908663101527719815:=0
def PySem.W.Fast.tw14997408087733616582:=0
def PySem.W.Fast.tw3654815601204747921:=0
def PySem.W.Fast.tw14719809499736520205:=0
def PySem.W.Fast.tw5960393656916565690:=0
def PySem.W.Fast.tw17354075493047451688:=0
def PySem.W.Fast.tw13915966870997729960:=0
def PySem.W.Fast.tw1100640425462211683:=0
def PySem.W.Fast.tw16751334583768598549:=0
def PySem.W.Fast.tw16279135885425431930:=0
def PySem.W.Fast.tw4769092920151681567:=0
def PySem.W.Fast.tw2830474936352184322:=0
def PySem.W.Fast.tw15108971282897067190:=0
def PySem.W.Fast.tw15573775560887875319:=0
def PySem.W.Fast.tw16517709245190083031:=0
def PySem.W.Fast.tw6101548842572216691:=0
def PySem.W.Fast.tw11361801515457987195:=0
def PySem.W.Fast.tw7779172869924685321:=0
def PySem.W.Fast.tw4735764280042204689:=0
def PySem.W.Fast.tw2924406670792754880:=0
def PySem.W.Fast.tw13105236019108500423:=0
def PySem.W.Fast.tw2758589729869543482:=0
def PySem.W.Fast.tw7268596040903732331:=0
def PySem.W.Fast.tw12251874785830717622:=0
def PySem.W.Fast.tw10507826698741861564:=0
def PySem.W.Fast.tw10039985868218807399:=0
def PySem.W.Fast.tw6231414211309060021:=0
def PySem.W.Fast.tw1237891623111642091:=0
def PySem.W.Fast.tw4595620684502405737:=0
def PySem.W.Fast.tw16171244892638321:=0
def PySem.W.Fast.tw2856711906851209341:=0
def PySem.W.Fast.tw5364400559965358576:=0
def PySem.W.Fast.tw4729688934459384668:=0
def PySem.W.Fast.tw15991202570614408263:=0
def PySem.W.Fast.tw863669251540269256:=0
def PySem.W.Fast.tw17212444860750719764:=0
def PySem.W.Fast.tw12532731017000002816:=0
def PySem.W.Fast.tw13129895328637734077:=0
def PySem.W.Fast.tw3912460147489490817:=0
def PySem.W.Fast.tw7545631855429313909:=0
def PySem.W.Fast.tw5515378877626315762:=0
def PySem.W.Fast.tw15706749029282348768:=0
def PySem.W.Fast.tw10700142368851805702:=0
def PySem.W.Fast.tw11339387367413116667:=0
def PySem.W.Fast.tw4429410583094563644:=0
def PySem.W.Fast.tw13845966515136706378:=0
def PySem.W.Fast.tw17202247768251036336:=0
def PySem.W.Fast.tw3268843242963456236:=0
def PySem.W.Fast.tw2749916546275736573:=0
def PySem.W.Fast.tw8210659392847315233:=0
def PySem.W.Fast.tw9720118871889076715:=0
def PySem.W.Fast.tw14640058048280563162:=0
def PySem.W.Fast.tw4986226359698009215:=0
def PySem.W.Fast.tw16969037780915610094:=0
def PySem.W.Fast.tw5578241910065375171:=0
def PySem.W.Fast.tw5304139270521586779:=0
def PySem.W.Fast.tw16972876154817857233:=0
def PySem.W.Fast.tw2836894756852934801:=0
def PySem.W.Fast.tw13637505931100204301:=0
def PySem.W.Fast.tw4389422274386616065:=0
def PySem.W.Fast.tw11254026610068470457:=0
def PySem.W.Fast.tw9280987250561536328:=0
def PySem.W.Fast.tw15019704348639847927:=0
def PySem.W.Fast.tw14266196495963282378:=0
def PySem.W.Fast.tw4065000942512148270:=0
def PySem.W.Fast.tw12526761975310784855:=0
def PySem.W.Fast.tw16168046525728295516:=0
def PySem.W.Fast.tw9551386212820014699:=0
def PySem.W.Fast.tw11970029222611518629:=0
def PySem.W.Fast.tw12730418154153288731:=0
def PySem.W.Fast.tw729202821499108381:=0
def PySem.W.Fast.tw2990358730574823759:=0
def PySem.W.Fast.tw7049506053838050827:=0
def PySem.W.Fast.tw9441907819974918820:=0
def PySem.W.Fast.tw18073680889633284211:=0
def PySem.W.Fast.tw8044076067255567342:=0
def PySem.W.Fast.tw15221362793140103297:=0
def PySem.W.Fast.tw15240847462355507240:=0
def PySem.W.Fast.tw18193653966975704684:=0
def PySem.W.Fast.tw16105030591601480128:=0
def PySem.W.Fast.tw5952748292650715223:=0
def PySem.W.Fast.tw10733107962291953659:=0
def PySem.W.Fast.tw3686649922074855081:=0
def PySem.W.Fast.tw16767260368369082972:=0
def PySem.W.Fast.tw12267859626529435075:=0
def PySem.W.Fast.tw16264501882653983393:=0
def PySem.W.Fast.tw326481590579465669:=0
def PySem.W.Fast.tw17775257457332188471:=0
def PySem.W.Fast.tw3517381327312479356:=0
def PySem.W.Fast.tw14843560750132995036:=0
def PySem.W.Fast.tw14403616124044630040:=0
def PySem.W.Fast.tw11237234574946370942:=0
def PySem.W.Fast.tw12202516935985339426:=0
def PySem.W.Fast.tw14287787251641638633:=0
def PySem.W.Fast.tw11358155793261993793:=0
def PySem.W.Fast.tw15852987483708814533:=0
def PySem.W.Fast.tw5380504275333909830:=0
def PySem.W.Fast.tw6444089476455830699:=0
def PySem.W.Fast.tw2219143528581133846:=0
def PySem.W.Fast.tw17386889105774317521:=0
def PySem.W.Fast.tw17939428443693629741:=0
def PySem.W.Fast.tw8043960350419805952:=0
def PySem.W.Fast.tw10158953815749646749:=0
def PySem.W.Fast.tw16131970898804255710:=0
def PySem.W.Fast.tw16184411616093954120:=0
def PySem.W.Fast.tw7584922986152798424:=0
def PySem.W.Fast.tw628861672304910960:=0
def PySem.W.Fast.tw7866446192603502226:=0
def PySem.W.Fast.tw9500218994277492738:=0
def PySem.W.Fast.tw6258939181225679312:=0
open PySem PySem.W PyProof.Rows
set_option maxRecDepth 100000 in
set_option maxHeartbeats 0 in
theorem PySem.Challenge.cw_ladderworth_k56_whole_the_book_alone_holds : PySem.Challenge.rw_ladderworth_k56_whole_the_book_alone.Holds := by
 w_on;o_law;k_head;(case hw=>w_witness2)
 k_fill
 refine My.walk (l:=PySem.Challenge.rw_ladderworth_k56_whole_the_book_alone) rfl rfl (fun w h Y=>PySem.W.km_in_of Y) (fun w h Y=>PySem.W.km_tabs_of Y) ?F
 case F=>
  intro w mg fa h KX G hmg
  refine' My.all_mk KX G hmg ?d0 ?d1 ?d2 ?d3 ?d4 ?d5 ?d6 ?d7 ?a8 ?l8 ?e8 ?k8 ?d9 ?d10 ?d11 ?d12 ?d13 ?d14 ?d15 ?d16 ?d17 ?d18 ?d19 ?d20 ?d21 ?d22 ?d23 ?d24 ?d25 ?d26 ?d27 ?d28 ?d29 ?d30 ?d31 ?d32 ?d33 ?d34 ?d35 ?d36 ?d37 ?d38 ?d39 ?d40 ?d41 ?d42 ?d43 ?d44 ?d45 ?d46 ?d47 ?d48 ?d49 ?d50 ?d51 ?a52 ?l52 ?e52 ?k52 ?t1 ?t2 ?t3 ?t4 ?t8 ?er ?n_abs ?n_all ?n_bool ?n_enumerate ?n_int ?n_isinstance ?n_len ?n_list ?n_max ?n_min ?n_range ?n_set ?n_sorted ?n_tuple ?n_zip ?v_FIRST_ROW ?w_FIRST_ROW ?w_FIRST_ROW_1 ?v_LAST_FROM ?v_MOST_GAMES ?v_MOST_PART ?v_MOST_PLAYERS ?v_MOST_ROWS
  (case er=>
   refine' ⟨PySem.W.mg_of KX G ?_,PySem.W.mg_of KX G ?_,PySem.W.mg_of KX G ?_,PySem.W.mg_of KX G ?_,PySem.W.mg_of KX G ?_,PySem.W.mg_of KX G ?_,?_,⟨?_,?_,?_,?_,?_,?_⟩,?_,⟨?_,?_,?_,?_⟩,⟨?_,?_⟩,?_,?_,?_,?_,?_,⟨?_,?_,?_,?_⟩,⟨?_,?_⟩,?_,?_,?_,?_,?_,?_,⟨?_,?_,?_,?_⟩,⟨?_,?_⟩,?_,?_,?_,?_,⟨?_,?_,?_,?_⟩,⟨?_,?_⟩,?_,?_,?_,?_,?_,?_,⟨?_,?_,?_,?_⟩,⟨?_,?_⟩,⟨?_,?_⟩,?_,?_,?_⟩
   all_goals (try unfold L2.NoAttr);first|k_is|k_exc|kernel_rfl)
  (case d0|d7|d9|d22|d23|d24|d25|d46|d47=>refine' My.dmk KX G ?uA ?uL ?uE ?uK (fun _ _ _ _ _ _ us hl=>by obtain ⟨_,rfl⟩:=My.lenE1 us hl;rfl);(case uA|uL|uE|uK=>k_is))
  (case d1|d2|d3|d4|d5|d10|d12|d13|d14|d20|d21|d26|d27|d42|d43|d44|d48|d49=>refine' My.dmk KX G ?uA ?uL ?uE ?uK (fun _ _ _ _ _ _ us hl=>by obtain ⟨_,_,rfl⟩:=My.lenE2 us hl;rfl);(case uA|uL|uE|uK=>k_is))
  (case d6|d41|d45=>refine' My.dmk KX G ?uA ?uL ?uE ?uK (fun _ _ _ _ _ _ us hl=>by obtain ⟨_,_,_,rfl⟩:=My.lenE3 us hl;rfl);(case uA|uL|uE|uK=>k_is))
  (case d11|d51=>refine' My.dmk KX G ?uA ?uL ?uE ?uK (fun _ _ _ _ _ _ us hl=>by obtain ⟨_,_,_,_,rfl⟩:=My.lenE4 us hl;rfl);(case uA|uL|uE|uK=>k_is))
  (case d50=>refine' My.dmk KX G ?uA ?uL ?uE ?uK (fun _ _ _ _ _ _ us hl=>by obtain ⟨_,_,_,_,_,rfl⟩:=My.lenE5 us hl;rfl);(case uA|uL|uE|uK=>k_is))
  (case d18|d19|d31|d34|d37|d40=>refine' My.mmk (Lw.ac_cons ⟨?uA0,?uI0,?uJ0⟩ Lw.ac_nil) Lw.ac_nil ?uL ?uE ?uK (fun _ _ _ _ _ _ us hl=>by obtain ⟨_,rfl⟩:=My.lenE1 us hl;rfl);(case uA0|uI0|uJ0|uL|uE|uK=>first|k_is|kernel_rfl))
  (case d15|d16|d17=>refine' My.mmk (Lw.ac_cons ⟨?uA0,?uI0,?uJ0⟩ Lw.ac_nil) Lw.ac_nil ?uL ?uE ?uK (fun _ _ _ _ _ _ us hl=>by obtain ⟨_,_,rfl⟩:=My.lenE2 us hl;rfl);(case uA0|uI0|uJ0|uL|uE|uK=>first|k_is|kernel_rfl))
  (case d33|d36=>refine' My.mmk (Lw.ac_cons ⟨?uA0,?uI0,?uJ0⟩ Lw.ac_nil) Lw.ac_nil ?uL ?uE ?uK (fun _ _ _ _ _ _ us hl=>by obtain ⟨_,_,_,rfl⟩:=My.lenE3 us hl;rfl);(case uA0|uI0|uJ0|uL|uE|uK=>first|k_is|kernel_rfl))
  (case d38|d39=>refine' My.mmk (Lw.ac_cons ⟨?uA0,?uI0,?uJ0⟩ Lw.ac_nil) Lw.ac_nil ?uL ?uE ?uK (fun _ _ _ _ _ _ us hl=>by obtain ⟨_,_,_,_,_,rfl⟩:=My.lenE5 us hl;rfl);(case uA0|uI0|uJ0|uL|uE|uK=>first|k_is|kernel_rfl))
  (case d32|d35=>refine' My.mmk (Lw.ac_cons ⟨?uA0,?uI0,?uJ0⟩ Lw.ac_nil) Lw.ac_nil ?uL ?uE ?uK (fun _ _ _ _ _ _ us hl=>by obtain ⟨_,_,_,_,_,_,rfl⟩:=My.lenE6 us hl;rfl);(case uA0|uI0|uJ0|uL|uE|uK=>first|k_is|kernel_rfl))
  (case d28=>refine' My.mmk (Lw.ac_cons ⟨?uA0,?uI0,?uJ0⟩ Lw.ac_nil) (Lw.ac_cons ?uG0 Lw.ac_nil) ?uL ?uE ?uK (fun _ _ _ _ _ _ us hl=>by obtain ⟨_,_,_,_,rfl⟩:=My.lenE4 us hl;rfl);(case uA0|uI0|uJ0|uG0|uL|uE|uK=>first|k_is|kernel_rfl))
  (case d29=>refine' My.mmk (Lw.ac_cons ⟨?uA0,?uI0,?uJ0⟩ (Lw.ac_cons ⟨?uA1,?uI1,?uJ1⟩ Lw.ac_nil)) Lw.ac_nil ?uL ?uE ?uK (fun _ _ _ _ _ _ us hl=>by obtain ⟨_,_,_,rfl⟩:=My.lenE3 us hl;rfl);(case uA0|uI0|uJ0|uA1|uI1|uJ1|uL|uE|uK=>first|k_is|kernel_rfl))
  (case d30=>refine' My.mmk (Lw.ac_cons ⟨?uA0,?uI0,?uJ0⟩ (Lw.ac_cons ⟨?uA1,?uI1,?uJ1⟩ (Lw.ac_cons ⟨?uA2,?uI2,?uJ2⟩ Lw.ac_nil))) Lw.ac_nil ?uL ?uE ?uK (fun _ _ _ _ _ _ us hl=>by obtain ⟨_,_,_,_,_,rfl⟩:=My.lenE5 us hl;rfl);(case uA0|uI0|uJ0|uA1|uI1|uJ1|uA2|uI2|uJ2|uL|uE|uK=>first|k_is|kernel_rfl))
  (case a8|l8|e8|k8=>k_is)
  (case a52|l52|e52|k52=>k_is)
  (case t1=>k_is)
  (case t2=>exact rfl)
  (case t3|t4=>kernel_rfl)
  (case t8=>exact List.mem_singleton.mpr rfl)
  (case n_abs|n_all|n_bool|n_enumerate|n_int|n_isinstance|n_len|n_list|n_max|n_min|n_range|n_set|n_sorted|n_tuple|n_zip=>refine' PySem.W.mg_none_of KX G ?_;k_is)
  (case v_FIRST_ROW=>refine' ⟨_,PySem.W.mg_of KX G ?uP,rfl⟩;(case uP=>k_is))
  (case w_FIRST_ROW=>refine' My.tup_mk ?uP ?uH ?uQ;(case uP=>k_is);(case uH=>show 2≤sizeLine;decide);(case uQ=>exact (Paired.cons ⟨_,rfl⟩ (Paired.cons rfl Paired.nil))))
  (case w_FIRST_ROW_1=>refine' My.tup_mk ?uP ?uH ?uQ;(case uP=>k_is);(case uH=>show 2≤sizeLine;decide);(case uQ=>exact (Paired.cons ⟨_,rfl⟩ (Paired.cons ⟨_,rfl⟩ Paired.nil))))
  (case v_LAST_FROM=>refine' ⟨_,PySem.W.mg_of KX G ?uP,?uQ⟩;(case uP=>k_is);(case uQ=>exact ⟨_,rfl⟩))
  (case v_MOST_GAMES=>refine' ⟨_,PySem.W.mg_of KX G ?uP,?uQ⟩;(case uP=>k_is);(case uQ=>exact ⟨_,rfl⟩))
  (case v_MOST_PART=>refine' ⟨_,PySem.W.mg_of KX G ?uP,?uQ⟩;(case uP=>k_is);(case uQ=>exact ⟨_,rfl⟩))
  (case v_MOST_PLAYERS=>refine' ⟨_,PySem.W.mg_of KX G ?uP,?uQ⟩;(case uP=>k_is);(case uQ=>exact ⟨_,rfl⟩))
  (case v_MOST_ROWS=>refine' ⟨_,PySem.W.mg_of KX G ?uP,?uQ⟩;(case uP=>k_is);(case uQ=>exact ⟨_,rfl⟩))
#print axioms PySem.Challenge.cw_ladderworth_k56_whole_the_book_alone_holds
